import Derived.Test.YtfccelbmacjifabGreatP0
import Derived.Test.YtfccelbmacjifabGreatP33
import Derived.Test.YtfccelbmacjifabGreatP28
import Derived.Test.YtfccelbmacjifabGreatP30
set_option linter.unusedSimpArgs false
set_option maxRecDepth 100000
set_option maxHeartbeats 4000000
namespace Go.Proofs.YtfccelbmacjifabGreat
section
open Go.RowKit
section
variable {W w w1 w2 : World} {pb sb ub : Nat} {T N E L : Int} {Q : PSt->List (Int × Int)->Int->Int->Int->Prop} {j i : Nat} {own own1 : Own} {D D1 : PlD} {ps : List (Int × Int)} {n e c : Int}
theorem wp_region_two {Pg : Program} {id : Nat} {Q : Exit->Go.Act->World->Prop} {a : Go.Act} {w : World} {l : List Oper} (eff1 eff2 : Nat) (C : World->Prop) (hne : eff1≠eff2)
  (hm : Pg.follows .mixedOrders = true) (hB : Region.lexB .any l.toArray = true) (hch : chainB .any l.toArray [eff1,eff2] = true) (hlow : lowB .any l.toArray = true) (hin : eff1 < l.length/\eff2 < l.length)
  (h : ∀ (U : Type) (W : U->World),Nonempty U->(∀ u,Fr (fun _=>False) w (W u)\/C (W u))->wpMix Pg l.toArray (fun w'=>∃ u,w' = W u) (fun k w'=>(k<=1->Fr (fun _=>False) w w')/\(k = 2->C w')) [eff1,eff2] (fun a'=>∀ w',C w'->Q .normal a' w') l 0 0 a) :
  (Code.region id l.toArray true).wp Pg Q a w:=by
 refine wp_region_mixC [eff1,eff2] (fun k w'=>(k<=1->Fr (fun _=>False) w w')/\(k = 2->C w')) 1 rfl hm hB hch (by simpa using hne) hlow (by simpa using hin) ⟨fun _=>(Fr.refl _ _).drew,by simp⟩ ?_;intro U W hU hW
 have:=h U W hU (fun u=>by
  obtain ⟨k,hk,h0,h1⟩:=hW u;rcases (show k<=1\/k = 2 by omega) with hh | hh
  ·exact .inl (h0 hh)
  ·exact .inr (h1 hh))
 simpa using this
theorem AlSt.boxes (h : AlSt 1 W w pb sb ub T N E L Q j own D ps n e c) (hf : Fr (fun _=>False) w w1) {v : Value} {sp : List (Int × Int)} {w0 : World} (hO : OwnSpans w0 w1 v sp) (hw : w.heap.size<=w0.heap.size) (o : OpV) (h1 : o.sv = v) (h2 : o.spans = sp) :
  ∃ own1,AlSt 1 W w1 pb sb ub T N E L Q j own1 D ps n e c/\OpOk own1 2 w1 o/\∀ k,w.heap.size<=k->v.ownBlock≠some k->own1 k = ⟨0,.store⟩:=by
 obtain ⟨own1,ho⟩ : ∃ own1 : Own,own1 = fun k=>if k < w.heap.size then own k else if v.ownBlock = some k then ⟨2,.oth 5⟩ else ⟨0,.store⟩:=⟨_,rfl⟩
 have hE : Ext own own1 w:=fun k hk=>by rw [ho]; simp [hk]
 refine ⟨own1,⟨h.at_.calm hf hE,Ext.trans h.ext hE h.fr.size,h.fr.trans hf,h.q,h.ok,h.cfg,h.N,h.deeds,h.cnt⟩,⟨?_,?_⟩,?_⟩
 ·rw [h1,h2]; exact hO.row
 ·rw [h1];intro k hk
  have:=hO.new k hk
  rw [ho]; simp [show ¬ k < w.heap.size by omega,hk]
 ·intro k hk hv;rw [ho]; simp [show ¬ k < w.heap.size by omega,hv]
theorem AlAt.purse {z : Nat} (h : AlAt own z w pb sb ub D ps n e c) {n' e' c' : Int} (hF : Fr (fun k=>k = ub) w w1) (hU : PuAt w1 ub n' e' c') : AlAt own z w1 pb sb ub D ps n' e' c':=by
 obtain ⟨a,q,hs,ht⟩:=h.sh;refine ⟨h.pl.fr hF (Ext.refl _ _) ?_,⟨a,q,hs.keepS hF ?_ ?_,fun g hg=>⟨Nat.lt_of_lt_of_le (ht g hg).1 hF.size,(ht g hg).2⟩⟩,hU,h.ts,h.tu⟩
 ·rintro k hk rfl;rw [h.tu] at hk;simp at hk
 ·rintro rfl
  have:=h.ts
  rw [h.tu] at this;simp at this
 ·rintro g hg rfl
  have:=(ht _ hg).2
  rw [h.tu] at this;simp at this
theorem AlSt.start (hQ : Quiets 1 T N E L Q) (hP : PlAt own 1 w pb D) (hE : Ext own00 own W) (hF : Fr (fun _=>False) W w) (hD : FreshPl 1 T N E L D) (hw : w.heap.size = sb) (hf : Fr (fun _=>False) w w1) (hS : At w1 sb [.slice none 0 0] 49) (hf2 : Fr (fun _=>False) w1 w2) (hU : PuAt w2 ub N (E - 1) 0) (hu : w1.heap.size<=ub) : AlOn 1 W w2 pb sb ub T N E L Q 0:=by
 have hsl:=hS.lt;obtain ⟨own1,ho⟩ : ∃ own1 : Own,own1 = fun k=>if k < w.heap.size then own k else if k = sb then ⟨3,.store⟩ else ⟨4,.store⟩:=⟨_,rfl⟩
 have hE1 : Ext own own1 w:=fun k hk=>by rw [ho]; simp [hk]
 have hs : own1 sb = ⟨3,.store⟩:=by rw [ho]; simp [hw]
 have hub : own1 ub = ⟨4,.store⟩:=by rw [ho]; simp [show ¬ ub < w.heap.size by omega,show ub≠sb by omega]
 have hF2:=hf.trans hf2;refine ⟨own1,D,[],N,E - 1,0,⟨⟨hP.fr hF2 hE1 (fun _ _ h=>h),⟨none,0,⟨hf2.at hS (fun h=>h),by intro i p hp; simp at hp⟩,by intro g hg; cases hg⟩,hU,hs,hub⟩,Ext.trans hE hE1 hF.size,hF.trans hF2,by rw [hD.P]; exact hQ.fresh,hD.ok,hD.cfg,by rw [hD.N]; omega,by rw [hD.deeds]; simp,by rw [hD.cnt.1,hD.cnt.2]; simp⟩⟩
theorem ltalone_calls (hQ : ∀ T N E L : Int,okCfg 1 T N E L = true->∃ Q,Quiets 1 T N E L Q) (k t n e l : Int) (W : World) (sa : Option Addr) (c : Nat) (acts : List ActD) (rt : rawI t) (rn : rawI n) (re : rawI e) (rl : rawI l) (hlen : acts.length<=2 ^ 20) (hacts : ∀ i a,acts[i]? = some a->ActIn W sa i a/\a.sn<=2 ^ 20) :
  Calls Tryz.prog 10 #[cfg k t n e l,.slice sa acts.length c,.int .i64 1] W fun r W'=>r = .returned (.bool true)/\Fr (fun _=>False) W W':=by
 obtain ⟨hok,hT1⟩:=cfg_ok 1 1 t n e l (.inr rfl) (.inl rfl);have HCf:=(mkH (∀ w,Calls Tryz.prog 15 #[cfg k t n e l,.int .i64 1,.int .i64 1] w _) <|fun w=>config_calls k t n e l 1 1 w rt rn re rl (.inl rfl));generalize cT 1 t = T at hok hT1 HCf;generalize cN n = N at hok HCf;generalize cE e = E at hok HCf;generalize cL l = L at hok HCf;obtain ⟨Q,hq⟩:=hQ T N E L hok;obtain ⟨_,hT,hN,hE,hL⟩ : (0<=(1 : Int)/\(1 : Int)<=1)/\(1<=T/\T<=8)/\(0<=N/\N<=64)/\(1<=E/\E<=256)/\(0<=L/\L<=1099511627776):=by
  simp only [okCfg,Bool.and_eq_true,isIn_iff] at hok;omega
 have HQ:=(mkH (Quiets 1 T N E L Q) <|hq);have HOk:=(mkH (okCfg 1 T N E L = true) <|hok);have HAc:=(mkH (∀ i a,acts[i]? = some a->ActIn W sa i a/\a.sn<=2 ^ 20) <|hacts);obtain ⟨hT1,hT2⟩:=hT;obtain ⟨hN1,hN2⟩:=hN;obtain ⟨hE1,hE2⟩:=hE;clear hQ hq hok hacts rt rn re rl;unfold cfg at HCf ⊢
 go_enter Tryz.func10,Tryz.ntmps10
 go_wp2_with fail;refine Calls.mono (HCf.out _) ?_;rintro r w1 ⟨rfl,hF1⟩;have HF1:=(mkH (Fr (fun _=>False) W w1) <|((Fr.refl _ _).alloc _).trans hF1);clear hF1 HCf;go_wp2_with fail;refine Calls.mono (player_calls 1 T N E L w1 own00 1 HOk.out) ?_;rintro r w2 ⟨pb,rfl,own,D,hP,hE0,hD,hF2⟩;have ha:=hP.at_.cell;have hD':=hD.cfg;simp only [PlD.cells,hD'.1,hD'.2.1,hD'.2.2.1,hD'.2.2.2.1,hD'.2.2.2.2,pv] at ha;have hpl:=hP.at_.lt;have hpn : pb≠w2.heap.size:=by omega
 have HP:=(mkH (PlAt own 1 w2 pb D/\Ext own00 own W/\Fr (fun _=>False) W w2/\FreshPl 1 T N E L D) <|⟨hP,fun k hk=>hE0 k (Nat.lt_of_lt_of_le hk HF1.out.size),HF1.out.trans hF2,hD⟩);clear hP hE0 hD hF2 hD';unfold pv;go_wp2_with fail;refine Calls.mono (purse_calls 1 T N E L _ ⟨by omega,hE2⟩) ?_;rintro r w3 ⟨ub,rfl,hU,hu1,hu2,hF3⟩;obtain ⟨sb,hsb⟩ : ∃ sb,Hid (sb = w2.heap.size):=⟨_,rfl⟩;have HOn:=(mkH (AlOn 1 W w3 pb sb ub T N E L Q 0) <|AlSt.start (w1:=w2.alloc (.cells #[.slice none 0 0] 49)) HQ.out HP.out.1 HP.out.2.1 HP.out.2.2.1 HP.out.2.2.2 hsb.out.symm ((Fr.refl _ _).alloc _) (by rw [hsb.out]; exact At.new _ _ _) hF3 hU hu1);rw [<- hsb.out];clear hU hu1 hu2 hF3 ha hpl hpn HP hsb HF1 HOk;unfold pv;go_wp2
 go_loopw [10] (fun v wr=>∃ j : Nat,j<=acts.length/\v = .int .i64 j/\Hid (AlOn 1 W wr pb sb ub T N E L Q j)) (fun v _=>acts.length - (intOf v).toNat)
 case atStart=>exact ⟨0,by omega,rfl,HOn⟩
 case round =>
  clear HOn;obtain ⟨j,hj,rfl,HOn⟩:=hrel;obtain ⟨own1,D1,ps,n1,e1,q1,hst⟩:=HOn.out;have HSt:=(mkH (AlSt 1 W wr pb sb ub T N E L Q j own1 D1 ps n1 e1 q1) <|hst);clear hst HOn;by_cases hlt : j < acts.length
  ·have hx : acts[j]? = some acts[j]:=List.getElem?_eq_getElem hlt;obtain ⟨hai,hasn⟩:=HAc.out j _ hx;generalize acts[j] = a at hx hai hasn;have HAI:=(mkH (ActIn wr sa j a) <|hai.keep HSt.out.fr);obtain ⟨ab,off,rfl,hcl,hsp,_,htt⟩:=HAI.out;have c0:=hcl 0 _ rfl;have c1:=hcl 1 _ rfl;have c2:=hcl 2 _ rfl;have c3:=hcl 3 _ rfl;have c4:=hcl 4 _ rfl;have c5:=hcl 5 _ rfl;have c6:=hcl 6 _ rfl;obtain ⟨kd,tt,o,ky,va,m,psa,psn,psc,sps⟩:=a;simp only [Nat.add_zero,<- Nat.add_assoc] at c0 c1 c2 c3 c4 c5 c6;simp only at hasn hsp htt;have C0:=(mkH (_/\_/\_/\_/\_/\_/\_) <|⟨c0,c1,c2,c3,c4,c5,c6⟩);have hA1 : At (wr.alloc (.cells #[.int .i64 kd,.int .i64 tt,.int .i64 o,.int .i64 ky,.int .i64 va,.int .i64 m,.slice psa psn psc] 29)) wr.heap.size [.int .i64 kd,.int .i64 tt,.int .i64 o,.int .i64 ky,.int .i64 va,.int .i64 m,.slice psa psn psc] 29:=At.new _ _ _;have hf1 : Fr (fun _=>False) wr (wr.alloc (.cells #[.int .i64 kd,.int .i64 tt,.int .i64 o,.int .i64 ky,.int .i64 va,.int .i64 m,.slice psa psn psc] 29)):=(Fr.refl _ _).alloc _;have HA1:=(mkH (At _ wr.heap.size _ 29) <|hA1);have HF1:=(mkH (Fr _ wr _) <|hf1);have HSt1:=(mkH (AlSt 1 W _ pb sb ub T N E L Q j own1 D1 ps n1 e1 q1) <|HSt.out.calm hf1);have HTT:=(mkH (-9223372036854775808<=tt/\tt<=9223372036854775807) <|htt);have HSP:=(mkH (Spans wr psa psn sps/\psn<=2 ^ 20) <|⟨hsp,hasn⟩);clear hA1 hf1 hcl hx hai hasn htt hsp HAI;by_cases h1 : kd = 1
   ·subst h1;clear c0 c1 c2 c3 c4 c5 c6;have HOp:=(mkH (Calls _ _ _ _ _) <|opOf_calls ⟨1,tt,o,ky,va,m,psa,psn,psc,sps⟩ _ (HSP.out.1.keep HF1.out) HSP.out.2);simp only [actVal] at HOp;have c0 : wr.cell? ⟨ab,off + j * 7,none⟩ = some (.int .i64 1):=C0.out.1;have c1:=C0.out.2.1;have c2:=C0.out.2.2.1;have c3:=C0.out.2.2.2.1;have c4:=C0.out.2.2.2.2.1;have c5:=C0.out.2.2.2.2.2.1;have c6:=C0.out.2.2.2.2.2.2;go_wp2_with fail;refine Calls.mono HOp.out ?_;rintro r w4 ⟨xa,xc,rfl,hO⟩;have HO:=(mkH (OwnSpans _ w4 _ sps) <|hO);have HF4:=(mkH (Fr (fun _=>False) wr w4) <|HF1.out.trans hO.fr);have HA4:=(mkH (At w4 wr.heap.size _ 29) <|hO.fr.at HA1.out (fun h=>h));have hac:=HA4.out.cell;clear hO HOp c0 c1 c2 c3 c4 c5 c6;simp only [opVal];go_wp2_with fail;generalize hw5 : World.alloc _ _ = w5;have HB5:=(mkH (At w5 w4.heap.size [.int .i64 o,.int .i64 ky,.int .i64 va,.slice xa sps.length xc] 53) <|by rw [<- hw5]; exact At.new w4 _ _);have hf5 : Fr (fun _=>False) w4 w5:=by rw [<- hw5]; exact (Fr.refl _ _).alloc _
    clear hw5;have HA5:=(mkH (At w5 wr.heap.size _ 29) <|hf5.at HA4.out (fun h=>h));obtain ⟨own5,hst5,hop5,hz5⟩:=HSt.out.boxes (HF4.out.trans hf5) (HO.out.keep hf5) (by simp) ⟨o,ky,va,sps,.slice xa sps.length xc⟩ rfl rfl;have hza : own5 wr.heap.size = ⟨0,.store⟩:=hz5 _ (Nat.le_refl _) (by intro h; have h2:=HO.out.new _ h; have h3:=HA1.out.lt; omega);have hzb : own5 w4.heap.size = ⟨0,.store⟩:=hz5 _ HF4.out.size (by intro h; have:=ownsRow_lt HO.out.row h; omega);have HSt5:=(mkH (AlSt 1 W w5 pb sb ub T N E L Q j own5 D1 ps n1 e1 q1) <|hst5);have HOp5:=(mkH (OpOk own5 2 w5 ⟨o,ky,va,sps,.slice xa sps.length xc⟩) <|hop5);have hp2:=pickN_in (c:=tt) (n:=T) (by omega);obtain ⟨i,hi⟩ : ∃ i : Nat,Hid (pickN tt T = i):=⟨(pickN tt T).toNat,by show _ = _; omega⟩;have hil : (i : Int) < T:=by rw [<- hi.out]; exact hp2.2
    have HPk:=(mkH (∀ w,Calls Tryz.prog 23 #[.int .i64 tt,.int .i64 T] w fun r w'=>r = .returned (.int .i64 i)/\w' = w) <|by
     rw [<- hi.out];exact lpick_calls tt T HTT.out ⟨by omega,by omega⟩)
    have HSl : Hid (sps.length<=2 ^ 40):=by
     have h1:=HSP.out.1.1;have h2:=HSP.out.2;show sps.length<=2 ^ 40;omega
    clear hst5 hop5 hz5 hp2 hac hf5 HTT HSP HO HA4 HA1 HSt1 HF1 C0 HF4;refine wp_region_two 10 12 (fun w'=>AlOn 1 W w' pb sb ub T N E L Q (j + 1)/\FrA own5 1 w5 w') (by decide) (by kernel_rfl) (by kernel_rfl) (by kernel_rfl) (by kernel_rfl) (by decide) ?_;intro U V hU hV;have hau : ∀ u q,(V u).cell? ⟨wr.heap.size,q,none⟩ = [Value.int .i64 1,.int .i64 tt,.int .i64 o,.int .i64 ky,.int .i64 va,.int .i64 m,.slice psa psn psc][q]?:=by
     intro u;rcases hV u with h1 | h1
     ·exact (h1.at HA5.out (fun h=>h)).cell
     ·exact (h1.2.at HA5.out (by rw [hza]; simp)).cell
    have hbu : ∀ u q,(V u).cell? ⟨w4.heap.size,q,none⟩ = [Value.int .i64 o,.int .i64 ky,.int .i64 va,.slice xa sps.length xc][q]?:=by
     intro u;rcases hV u with h1 | h1
     ·exact (h1.at HB5.out (fun h=>h)).cell
     ·exact (h1.2.at HB5.out (by rw [hzb]; simp)).cell
    have hpu : ∀ u,(V u).cell? ⟨pb,2,none⟩ = some (.int .i64 T):=by
     intro u;rcases hV u with h1 | h1
     ·have:=(h1.at HSt5.out.at_.pl.at_ (fun h=>h)).cell 2
      simp only [PlD.cells,HSt5.out.cfg.2.1] at this;exact this
     ·obtain ⟨own6,D6,ps6,n6,e6,q6,h6⟩:=h1.1
      have:=h6.at_.pl.at_.cell 2
      simp only [PlD.cells,h6.cfg.2.1] at this;exact this
    clear hV
    repeat (refine mix_read rfl rfl ?_; go_big_quiet_step (fail); refine wpQuiet_nil ?_)
    refine mix_effC (.int .i64 i) rfl rfl rfl ?_ ?_
    ·intro w' hw';have hw0:=hw'.1 (by omega);go_simp;refine Calls.mono (HPk.out w') ?_;rintro r w'' ⟨rfl,rfl⟩;exact ⟨rfl,hw0⟩
    go_simp
    repeat (refine mix_read rfl rfl ?_; go_big_quiet_step (fail); refine wpQuiet_nil ?_)
    refine mix_effC (.bool true) rfl rfl rfl ?_ ?_
    ·intro w' hw';have hw0:=hw'.1 (by omega);go_simp;refine Calls.mono (lone_act (.inr rfl) HQ.out (HSt5.out.calm hw0) ⟨hN1,hN2⟩ (by omega) hil o ky va sps xa xc (HOp5.out.fr hw0 (Ext.refl _ _) (fun _ _ h=>h)) HSl.out) ?_;rintro r w'' ⟨rfl,hA,hF⟩;exact ⟨rfl,hA,(Fr.mono hw0 (fun _ _ h=>h.elim)).trans hF⟩
    go_simp
    repeat (refine mix_read rfl rfl ?_; go_big_quiet_step (fail); refine wpQuiet_nil ?_)
    refine mix_nil ?_;intro w6 hA6 hF6;have HA6:=(mkH (AlOn 1 W w6 pb sb ub T N E L Q (j + 1)) <|hA6);clear hA6 hF6 hau hbu hpu;go_wp2
    go_roundw
    case rel=>exact ⟨j + 1,by omega,by go_num,HA6⟩
    case measure=>simp [intOf]; omega
   ·have h1' : (kd == 1) = false:=by simpa using h1
    by_cases h6 : kd = 6
    ·subst h6;clear h1;go_wp2_with fail;refine Calls.mono (swept_act HQ.out HSt1.out) ?_;rintro r w4 ⟨rfl,own4,D4,hA4,hfin,hk4,hn4,he4⟩;have ha:=hA4.pl.at_.cell;simp only [PlD.cells,hk4,hn4,he4,pv] at ha;obtain ⟨la,lc,hs4,htl4⟩:=hA4.sh;have hsc:=hs4.1.cell;have huc:=hA4.pu.cell;have huz:=hA4.pu.frozen;have hps:=(HQ.out.room HSt.out.q).2.2.2.2.2.2;have HFin:=(mkH (∀ n' e' w2,_) <|hfin);have HA4:=(mkH (AlAt own4 1 w4 pb sb ub D4 ps n1 e1 q1) <|hA4);have hne : pb≠ub:=by
      rintro rfl
      have:=hA4.pl.tg
      rw [hA4.tu] at this;simp at this
     have hne' : ub≠pb:=fun h=>hne h.symm
     have hnes : sb≠ub:=by
      rintro rfl
      have:=hA4.ts
      rw [hA4.tu] at this;simp at this
     clear hA4 hfin hs4 htl4 hk4 hn4 he4;have HRes : Hid (AlOn 1 W ((w4.setCell ⟨ub,0,none⟩ (.int .i64 (N - ps.length * 2))).setCell ⟨ub,1,none⟩ (.int .i64 (E - ps.length * 2 - 1))).drew pb sb ub T N E L Q (j + 1)):=by
      have hF5 : Fr (fun k=>k = ub) w4 ((w4.setCell ⟨ub,0,none⟩ (.int .i64 (N - ps.length * 2))).setCell ⟨ub,1,none⟩ (.int .i64 (E - ps.length * 2 - 1))).drew:=(((Fr.refl _ _).set1 _ _).set1 _ _).drew;exact ⟨own4,D4,ps,_,_,q1,HFin.out _ _ _ (HA4.out.purse hF5 (At.drew (PuAt.setE (PuAt.setN HA4.out.pu)))) (by omega) (by omega) hF5⟩
     go_wp2_with fail;go_region;go_wp2
     go_roundw
     case rel=>exact ⟨j + 1,by omega,by go_num,HRes⟩
     case measure=>simp [intOf]; omega
    ·have h6' : (kd == 6) = false:=by simpa using h6
     by_cases h8 : kd = 8
     ·subst h8;clear h1 h6;go_wp2_with fail;refine Calls.mono (is_act HQ.out HSt1.out) ?_;rintro r w4 ⟨rfl,rfl⟩;go_wp2
      go_roundw
      case rel=>exact ⟨j + 1,by omega,by go_num,own1,D1,ps,n1,e1,_,HSt1.out.more⟩
      case measure=>simp [intOf]; omega
     ·have h8' : (kd == 8) = false:=by simpa using h8
      by_cases h9 : kd = 9
      ·subst h9;clear h1 h6 h8;go_wp2_with fail;refine Calls.mono (is_act HQ.out HSt1.out) ?_;rintro r w4 ⟨rfl,rfl⟩;go_wp2
       go_roundw
       case rel=>exact ⟨j + 1,by omega,by go_num,own1,D1,ps,n1,e1,_,HSt1.out.more⟩
       case measure=>simp [intOf]; omega
      ·have h9' : (kd == 9) = false:=by simpa using h9
       clear h1 h6 h8 h9;go_wp2
       go_roundw
       case rel=>exact ⟨j + 1,by omega,by go_num,own1,D1,ps,n1,e1,_,HSt1.out.more⟩
       case measure=>simp [intOf]; omega
  ·go_wp2_with fail;refine Calls.mono (is_act HQ.out HSt.out) ?_;rintro r w4 ⟨rfl,rfl⟩;have HF:=(mkH (Fr (fun _=>False) W w4) <|HSt.out.fr);go_wp2;go_ret;exact ⟨rfl,HF.out⟩
theorem talone_any (hQ : ∀ T N E L : Int,okCfg 1 T N E L = true->∃ Q,Quiets 1 T N E L Q) : LawHolds 4:=by
 intro k t n e l W sa c acts rt rn re rl hlen hacts;have HA:=(mkH (Calls Tryz.prog 10 #[cfg k t n e l,.slice sa acts.length c,.int .i64 1] (W.alloc (.cells #[.int .i64 k,.int .i64 t,.int .i64 n,.int .i64 e,.int .i64 l] 23)) _) <|ltalone_calls hQ k t n e l _ sa c acts rt rn re rl hlen (fun i a ha=>⟨(hacts i a ha).1.keep ((Fr.refl _ _).alloc _),(hacts i a ha).2⟩));clear hacts;unfold cfg at HA ⊢
 go_enter Tryz.func4,Tryz.ntmps4
 go_wp2_with fail;refine Calls.mono HA.out ?_;rintro r w1 ⟨rfl,hF1⟩;have HF1:=(mkH (Fr (fun _=>False) W w1) <|((Fr.refl _ _).alloc _).trans hF1);clear hF1 HA;go_wp2;go_ret;exact ⟨rfl,HF1.out⟩
end
end
section
open Go.ChangeShapes Go.WideShapes Go.ChangeAt Go.RowKit Go.Joins Go.Deep
theorem talone_contract (hany : LawHolds 4) (H : Type) (enc : TypeId × Value->H) (W : World) (base : Nat) (args : Array Value) (ds gs : List (DataW H)) (before : List MemPlace)
  (hval0 : ∀ (j : Nat) t v,Tryz.f4.params[j]? = some t->args[j]? = some v->Value.okWide Tryz.prog W .any base t v)
  (hW : DataW.Whole enc Tryz.prog Tryz.f4.params.toList Rows.treeAloneSpec.vars false W args.toList ds gs before) (hk : Rows.uptoSmall H (ds ++ gs) = true) :
  Calls Tryz.prog 4 args W fun e W'=>∃ v,e = .returned v/\Rows.treeAloneSpec.post enc Tryz.prog Tryz.f4 false true false false W args v W':=by
 have hval : ∀ (j : Nat) t v,Tryz.f4.params[j]? = some t->args[j]? = some v->Value.okWide Tryz.prog W .any base t v:=hval0;have hW':=hW;obtain ⟨p,q,hA0,hV,rfl,_,_⟩:=hW;have hA : DataW.TrodAll enc Tryz.prog W 0 (fun _=>true) true Tryz.f4.params.toList args.toList ds p:=hA0;rw [Tryz.params4] at hA hval;obtain ⟨v0,vs0,d0,ds0,p0,q0,hargs,rfl,rfl,h0,r0⟩:=trodAll_cons hA;obtain ⟨v1,vs1,d1,ds1,p1,q1,hargs1,rfl,rfl,h1,r1⟩:=trodAll_cons r0;obtain ⟨rfl,rfl,rfl⟩:=trodAll_nil r1;obtain rfl : args = #[v0,v1]:=by cases args; simp_all
 obtain ⟨rfl,rfl⟩:=trodVars_none hV;have k0:=h0;have k1:=h1;have lt0 : ∀ x ∈ p0,x.block < W.heap.size:=by obtain ⟨m,hm⟩:=k0; exact DataW.trod_lt m _ _ _ hm
 have lt1 : ∀ x ∈ p1,x.block < W.heap.size:=by obtain ⟨m,hm⟩:=k1; exact DataW.trod_lt m _ _ _ hm
 obtain ⟨k,t,n,e,l,rfl,rt,rn,re,rl⟩:=cfg_open (hval 0 23 v0 rfl rfl) h0;obtain ⟨sa,m,c,acts,rfl,hm,hl,hacts⟩:=acts_open (hval 1 24 v1 rfl rfl) h1;have hb : Rows.uptoBulk d1<=2 ^ 20:=by
  have h : Rows.uptoBulkAll ([d0,d1] ++ [])<=1048576:=of_decide_eq_true hk;simp only [List.cons_append,List.nil_append,Rows.uptoBulkAll] at h;omega
 clear hA0 hval0;subst hl;refine (hany k t n e l W sa c acts rt rn re rl (Nat.le_trans hm hb) (fun i a ha=>⟨(hacts i a ha).1,Nat.le_trans (hacts i a ha).2 hb⟩)).mono fun r W' ⟨he,hf⟩=>?_
 subst he;have bel : Below W.heap.size W W':=hf.below (fun _ _ h=>h);exact ⟨_,rfl,_,_,_,[],_,[],hW',trodAll_mk1 (shut_bool Tryz.underlying4 _),trodAll_cons_mk (Below.trod Tryz.laidOut (by kernel_rfl) (of_decide_eq_true (by kernel_rfl)) k0 bel lt0) (trodAll_cons_mk (Below.trod Tryz.laidOut (by kernel_rfl) (of_decide_eq_true (by kernel_rfl)) k1 bel lt1) trodAll_mk0),rfl,bel.frame _,fun h=>by cases h⟩
theorem talone_lifted (hany : LawHolds 4) (os : Os) (started : os.Started) (H : Type) (enc : TypeId × Value->H) (F : Stop.Interp) :
  ReturnsInHanded {} Tryz.checked os 4 .any ((Rows.OpenSpec.upto Rows.treeAloneSpec).pre6 enc Tryz.prog Tryz.f4 Rows.treeAloneUptoRow.domain false) (((Rows.OpenSpec.upto Rows.treeAloneSpec).at F).post enc Tryz.prog Tryz.f4 false true false false):=by
 refine returnsInHanded_of_cond (C:=Tryz.checked) (s:=Rows.OpenSpec.upto Rows.treeAloneSpec) (k:=Rows.uptoSmall) rfl Tryz.own started (by kernel_rfl) Tryz.func4
  (OpenSpec.witness (enc:=enc) (C:=Tryz.checked) (s:=Rows.OpenSpec.upto Rows.treeAloneSpec) (k:=Rows.uptoSmall) rfl false ⟨#[],#[.agg #[.int .i64 0,.int .i64 0,.int .i64 0,.int .i64 0,.int .i64 0],.slice none 0 0],[]⟩ 8 (by kernel_rfl) (by kernel_rfl) (by kernel_rfl)
   (x:=([.agg [.lit (.int .i64 0),.lit (.int .i64 0),.lit (.int .i64 0),.lit (.int .i64 0),.lit (.int .i64 0)],.nil],[],[])) (by kernel_rfl) rfl (by kernel_rfl)) ?_
 intro W base args ds gs before hval hW _ hk _;exact talone_contract hany H enc W base args ds gs before hval hW hk
theorem talone_frame (hany : LawHolds 4) : Rows.TreeAloneUptoSaid :=
 OpenClaim.holds_of_cond 4 Tryz.f4 rfl rfl rfl rfl rfl rfl rfl ⟨rfl,rfl,rfl,rfl,rfl⟩ rfl rfl rfl rfl rfl (by kernel_rfl) Tryz.func4 (by kernel_rfl)
  (of_decide_eq_true (by kernel_rfl)) (by unfold Func.isWrapper; first | (rw [if_pos (by decide +kernel)]; kernel_rfl) | (rw [if_neg (by decide +kernel)]; exact ⟨rfl,rfl⟩))
  (fun os started H enc _ F=>talone_lifted hany os started H enc F)
end
section
theorem talone_holds : Rows.TreeAloneUptoSaid:=talone_frame (talone_any (fun T N E L hok=>by
 obtain ⟨_,_,hN,hE,hL⟩ : (0<=(1 : Int)/\(1 : Int)<=1)/\(1<=T/\T<=8)/\(0<=N/\N<=64)/\(1<=E/\E<=256)/\(0<=L/\L<=1099511627776):=by
  simp only [okCfg,Bool.and_eq_true,isIn_iff] at hok;omega
 exact ⟨_,Go.Proofs.YtfccelbmacjifabGreat.T.tquiets hN hE hL⟩))
#print axioms talone_holds
end
end Go.Proofs.YtfccelbmacjifabGreat
