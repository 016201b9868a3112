import Derived.Test.YtfccelbmacjifabGreatP0
import Derived.Test.YtfccelbmacjifabGreatP26
import Derived.Test.YtfccelbmacjifabGreatP30
import Derived.Test.YtfccelbmacjifabGreatP32
set_option linter.unusedSimpArgs false
set_option maxRecDepth 100000
set_option maxHeartbeats 4000000
namespace Go.Proofs.YtfccelbmacjifabGreat
section
open Go.RowKit
def PuAt (w : World) (b : Nat) (n e c : Int) : Prop:=At w b [.int .i64 n,.int .i64 e,.int .i64 c] 59
section
variable {own : Own} {z : Nat} {w w' : World} {pb b : Nat} {D D1 : PlD} {i j : Nat}
theorem isUpdate_calls (kind key value : Int) (sv : Value) (w : World) :
  Calls Tryz.prog 33 #[opVal kind key value sv] w fun r w'=>r = .returned (.bool (kind == 1 || kind == 2))/\Fr (fun _=>False) w w':=by
 unfold opVal;have HF:=(mkH (∀ o,Fr (fun _=>False) w (w.alloc o)) <|fun o=>(Fr.refl _ _).alloc _);by_cases h1 : kind = 1
 ·subst h1
  go_enter Tryz.func33,Tryz.ntmps33
  go_wp2;go_ret;exact ⟨rfl,HF.out _⟩
 ·have h1' : (kind == 1) = false:=by simpa using h1
  by_cases h2 : kind = 2
  ·subst h2;clear h1 h1'
   go_enter Tryz.func33,Tryz.ntmps33
   go_wp2;go_ret;exact ⟨rfl,HF.out _⟩
  ·have h2' : (kind == 2) = false:=by simpa using h2
   have HE : Hid ((kind == 1 || kind == 2) = false):=by show _ = _; simp [h1',h2']
   clear h1 h2
   go_enter Tryz.func33,Tryz.ntmps33
   go_wp2;go_ret;exact ⟨ret_bool HE.out.symm,HF.out _⟩
theorem purse_calls (k t n e l : Int) (w : World) (he : 0<=e/\e<=256) :
  Calls Tryz.prog 20 #[cfg k t n e l] w fun r w'=>∃ b,r = .returned (pv b)/\PuAt w' b n (e - 1) 0/\w.heap.size<=b/\b < w'.heap.size/\Fr (fun _=>False) w w':=by
 obtain ⟨he1,he2⟩:=he;unfold cfg pv;have HF:=(mkH (∀ o o',Fr (fun _=>False) w ((w.alloc o).alloc o')) <|fun o o'=>((Fr.refl _ _).alloc _).alloc _);have HA:=(mkH (∀ o,At ((w.alloc o).alloc (.cells #[.int .i64 n,.int .i64 (e - 1),.int .i64 0] 59)) (w.alloc o).heap.size [.int .i64 n,.int .i64 (e - 1),.int .i64 0] 59) <|fun o=>At.new _ _ _)
 go_enter Tryz.func20,Tryz.ntmps20
 go_wp2;go_ret;exact ⟨w.heap.size + 1,rfl,At.newAt (by simp) _ _,by omega,by simp,HF.out _ _⟩
def Spent (k l kind n e c : Int) (b : Nat) (w' : World) : Prop:=if spendErr k l kind n e c = 0 then PuAt w' b (n - spendN k kind) (e - spendE k kind) (c + 1) else PuAt w' b n e c
theorem Spent.not {k l kind n e c x : Int} (he : spendErr k l kind n e c = x) (hx : x≠0) (h : PuAt w b n e c) : Spent k l kind n e c b w:=by unfold Spent; rw [if_neg (by omega)]; exact h
theorem Spent.yes {k l kind n e c : Int} (he : spendErr k l kind n e c = 0) (h : PuAt w b (n - spendN k kind) (e - spendE k kind) (c + 1)) : Spent k l kind n e c b w:=by unfold Spent; rw [if_pos he]; exact h
theorem PuAt.setN {n e c n' : Int} (h : PuAt w b n e c) : PuAt (w.setCell ⟨b,0,none⟩ (.int .i64 n')) b n' e c:=At.set h 0 _
theorem PuAt.setE {n e c e' : Int} (h : PuAt w b n e c) : PuAt (w.setCell ⟨b,1,none⟩ (.int .i64 e')) b n e' c:=At.set h 1 _
theorem PuAt.setC {n e c c' : Int} (h : PuAt w b n e c) : PuAt (w.setCell ⟨b,2,none⟩ (.int .i64 c')) b n e c':=At.set h 2 _
theorem spend_calls {n e c : Int} (h : PuAt w b n e c) (hn : 0<=n/\n<=64) (he : 0<=e/\e<=256) (hc : 0<=c/\c<=2 ^ 41) (k t n' e' l kind key value : Int) (sv : Value) (hk : k = 0\/k = 1) :
  Calls Tryz.prog 44 #[pv b,cfg k t n' e' l,opVal kind key value sv] w fun r w'=>r = .returned (.int .i64 (spendErr k l kind n e c))/\Fr (fun k=>k = b) w w' /\
   Spent k l kind n e c b w':=by
 obtain ⟨hn1,hn2⟩:=hn;obtain ⟨he1,he2⟩:=he;obtain ⟨hc1,hc2⟩:=hc;have hlt : b < w.heap.size:=At.lt h;have HS : Hid (∀ o o',PuAt ((w.alloc o).alloc o') b n e c/\∀ n e c,PuAt ((((((w.setCell ⟨b,0,none⟩ (.int .i64 n)).setCell ⟨b,1,none⟩ (.int .i64 e)).setCell ⟨b,2,none⟩ (.int .i64 c)).alloc o).alloc o').drew) b n e c):=by
  exact fun o o'=>⟨At.alloc (At.alloc h _) _,fun n e c=>At.drew (At.alloc (At.alloc (((h.setN).setE).setC) _) _)⟩
 have HF : Hid (∀ o o',Fr (fun k=>k = b) w ((w.alloc o).alloc o')/\∀ n e c,Fr (fun k=>k = b) w ((((((w.setCell ⟨b,0,none⟩ (.int .i64 n)).setCell ⟨b,1,none⟩ (.int .i64 e)).setCell ⟨b,2,none⟩ (.int .i64 c)).alloc o).alloc o').drew)) :=
  fun o o'=>⟨((Fr.refl _ _).alloc _).alloc _,fun n e c=>Fr.drew (((((((Fr.refl _ _).set1 _ _).set1 _ _).set1 _ _).alloc _).alloc _))⟩
 have hb:=h.cell;have hfz:=h.frozen;have hne1 : b≠w.heap.size:=by omega
 have hne2 : w.heap.size≠b:=by omega
 have hne3 : b≠w.heap.size + 1:=by omega
 have hne4 : w.heap.size + 1≠b:=by omega
 have hk1 : 0<=k/\k<=1:=by omega
 obtain ⟨hk2,hk3⟩:=hk1;clear hk h;unfold opVal cfg pv;by_cases h1 : kind = 1
 ·subst h1;by_cases h2 : n < 1 + k
  ·have HE : Hid (spendErr k l 1 n e c = 7):=by show _ = _; unfold spendErr spendN; simp [h2]
   have hd : decide (n < 1 + k) = true:=by simpa using h2
   go_enter Tryz.func44,Tryz.ntmps44
   go_wp2;go_ret;exact ⟨by rw [HE.out]; rfl,(HF.out _ _).1,.not HE.out (by decide) (HS.out _ _).1⟩
  ·have hd : decide (n < 1 + k) = false:=by simpa using h2
   by_cases h3 : e < 2 + k
   ·have HE : Hid (spendErr k l 1 n e c = 7):=by show _ = _; unfold spendErr spendE; simp [h3]
    have hd2 : decide (e < 2 + k) = true:=by simpa using h3
    go_enter Tryz.func44,Tryz.ntmps44
    go_wp2;go_ret;exact ⟨by rw [HE.out]; rfl,(HF.out _ _).1,.not HE.out (by decide) (HS.out _ _).1⟩
   ·have hd2 : decide (e < 2 + k) = false:=by simpa using h3
    by_cases h4 : c = l
    ·have HE : Hid (spendErr k l 1 n e c = 8):=by show _ = _; unfold spendErr spendE spendN; rw [if_neg (by simp; omega),if_pos h4]
     have h4' : (c == l) = true:=by simpa using h4
     clear h4
     go_enter Tryz.func44,Tryz.ntmps44
     go_wp2;go_region;go_wp2;go_ret;exact ⟨by rw [HE.out]; rfl,(HF.out _ _).1.drew,.not HE.out (by decide) (HS.out _ _).1.drew⟩
    ·have HE : Hid (spendErr k l 1 n e c = 0):=by show _ = _; unfold spendErr spendE spendN; rw [if_neg (by simp; omega),if_neg h4]
     have h4' : (c == l) = false:=by simpa using h4
     clear h4
     go_enter Tryz.func44,Tryz.ntmps44
     go_wp2;go_region;go_wp2;go_ret;exact ⟨by rw [HE.out]; rfl,(HF.out _ _).2 _ _ _,.yes HE.out ((HS.out _ _).2 _ _ _)⟩
 ·have h1' : (kind == 1) = false:=by simpa using h1
  have HK : Hid (spendN k kind = 0/\spendE k kind = 1):=⟨if_neg h1,if_neg h1⟩;clear h1;have hd : decide (n < 0) = false:=by simp; omega
  by_cases h3 : e < 1
  ·have HE : Hid (spendErr k l kind n e c = 7):=by show _ = _; unfold spendErr; rw [HK.out.1,HK.out.2]; simp [h3]
   have hd2 : decide (e < 1) = true:=by simpa using h3
   go_enter Tryz.func44,Tryz.ntmps44
   go_wp2;go_ret;exact ⟨by rw [HE.out]; rfl,(HF.out _ _).1,.not HE.out (by decide) (HS.out _ _).1⟩
  ·have hd2 : decide (e < 1) = false:=by simpa using h3
   by_cases h4 : c = l
   ·have HE : Hid (spendErr k l kind n e c = 8):=by show _ = _; unfold spendErr; rw [HK.out.1,HK.out.2,if_neg (by omega),if_pos h4]
    have h4' : (c == l) = true:=by simpa using h4
    clear h4
    go_enter Tryz.func44,Tryz.ntmps44
    go_wp2;go_region;go_wp2;go_ret;exact ⟨by rw [HE.out]; rfl,(HF.out _ _).1.drew,.not HE.out (by decide) (HS.out _ _).1.drew⟩
   ·have HE : Hid (spendErr k l kind n e c = 0):=by show _ = _; unfold spendErr; rw [HK.out.1,HK.out.2,if_neg (by omega),if_neg h4]
    have h4' : (c == l) = false:=by simpa using h4
    clear h4
    go_enter Tryz.func44,Tryz.ntmps44
    go_wp2;go_region;go_wp2;go_ret;exact ⟨by rw [HE.out]; rfl,(HF.out _ _).2 _ _ _,.yes HE.out (by rw [HK.out.1,HK.out.2,Int.sub_zero]; exact (HS.out _ _).2 _ _ _)⟩
end
end
section
open Go.RowKit
section
variable {own : Own} {z : Nat} {w w' : World} {pb : Nat} {D D1 : PlD} {i j : Nat}
theorem Prest_calls (h : PlAt own z w pb D) (r : Nat) (hr : r < D.P.ts.length + 3) (hmv : ∀ j,j < r->D.P.swHow j = 1) (hend : D.P.swHow r = 3) :
  Calls Tryz.prog 37 #[pv pb] w fun e w'=>e = .returned (.bool true)/\PlGoes own z w pb w' (SwN D (r + 1)):=by
 have hT : (D.t : Int)<=64/\0<=D.t:=by have:=h.thr; have:=h.fit.thr; omega
 obtain ⟨T,hTe⟩ : ∃ T,Hid (T = D.P.ts.length):=⟨_,rfl⟩;have hTt : Hid (D.t = T):=by show D.t = T; rw [hTe.out]; exact h.thr
 have hTb : T<=64:=by have:=hTt.out; omega
 have hrT : r < T + 3:=by rw [hTe.out]; exact hr
 have H:=(mkH (PlAt own z w pb D) <|h);have HM:=(mkH (∀ j,j < r->D.P.swHow j = 1) <|hmv);have HE:=(mkH (D.P.swHow r = 3) <|hend);have HS:=(mkH (∀ j (own1 : Own) (w1 : World) (D1 : PlD),PlAt own1 z w1 pb D1->Ext own own1 w->FrP own z w w1->SwN D j D1->Calls Tryz.prog 42 #[pv D1.L.s] w1 fun r w2=>r = .returned (.int .i64 (D.P.swHow j))/\PlGoes own z w pb w2 (SwN D (j + 1))) <|by
  intro j own1 w1 D1 h1 hE hF hS;obtain ⟨L1,e1,rfl⟩:=hS;refine (ZSweep_fit h1.st h1.fit).mono ?_;rintro r w2 ⟨rfl,hG⟩;have hf:=(h1.fit.sweep h1.st.mem.nsmall).1;obtain ⟨own2,L2,hP2,hE2,hF2,e2⟩:=h1.store hG hf (by rw [sweep_ts]);exact ⟨rfl,PlGoes.trans hE hF ⟨own2,_,hP2,hE2,hF2,L2,e2.trans e1,rfl⟩⟩)
 clear h hmv hend hT hTe hr;unfold pv at HS ⊢
 go_enter Tryz.func37,Tryz.ntmps37
 go_wp2
 go_loopw [3] (fun v wr=>∃ j : Nat,j<=r/\v = .int .i64 j/\Hid (PlGoes own z w pb wr (SwN D j))) (fun v _=>r + 1 - (intOf v).toNat)
 case atStart=>exact ⟨0,by omega,rfl,own,D,H.out,Ext.refl _ _,Fr.refl _ _,D.L,rfl,rfl⟩
 case round =>
  clear H;obtain ⟨j,hj,rfl,HG⟩:=hrel;obtain ⟨own1,D1,hP,hE,hF,hI⟩:=HG.out;have ha:=hP.at_.cell;have HC:=(mkH (PlAt own1 z wr pb D1/\Ext own own1 w/\FrP own z w wr/\SwN D j D1) <|⟨hP,hE,hF,hI⟩);have ht : D1.t = T:=by obtain ⟨L1,_,rfl⟩:=hI; exact hTt.out
  simp only [PlD.cells,ht,pv] at ha;clear hP hE hF hI HG ht;by_cases hlt : j < r
  ·have h1:=HM.out j hlt;go_wp2_with fail;refine (HS.out j own1 wr D1 HC.out.1 HC.out.2.1 HC.out.2.2.1 HC.out.2.2.2).mono ?_;rw [h1];rintro r w2 ⟨rfl,hG2⟩;have HG2:=(mkH (PlGoes own z w pb w2 (SwN D (j + 1))) <|hG2);clear hG2 h1;go_wp2
   go_roundw
   case rel=>exact ⟨j + 1,by omega,by go_num,HG2⟩
   case measure=>simp [intOf]; omega
  ·have hjm : Hid (j = r):=by show j = r; omega
   have h1 : D.P.swHow j = 3:=by rw [hjm.out]; exact HE.out
   go_wp2_with fail;refine (HS.out j own1 wr D1 HC.out.1 HC.out.2.1 HC.out.2.2.1 HC.out.2.2.2).mono ?_;rw [h1];rintro e w2 ⟨rfl,hG2⟩;have HG2:=(mkH (PlGoes own z w pb w2 (SwN D (r + 1))) <|by rw [<- show j + 1 = r + 1 by rw [hjm.out]]; exact hG2);clear hG2 h1;go_wp2;go_ret;exact ⟨rfl,HG2.out⟩
theorem whole_calls (w : World) : Calls Tryz.prog 28 #[] w fun e w'=>∃ va vc,e = .returned (opVal 4 0 0 (.slice va 1 vc))/\OwnSpans w w' (.slice va 1 vc) [(0,1099511627776)]:=by
 go_enter Tryz.func28,Tryz.ntmps28
 go_wp2_with fail;generalize hw1 : World.alloc (World.alloc w _) _ = w1;have hA : At w1 w.heap.size [.int .i64 4,.int .i64 0,.int .i64 0,.slice (some ⟨w.heap.size + 1,0,none⟩) 1 1] 53:=by subst hw1; exact (At.new w _ _).alloc _
 have hB : At w1 (w.heap.size + 1) [.int .i64 0,.int .i64 1099511627776] 81:=by subst hw1; exact At.newAt (by simp) _ _
 have hF : Fr (fun _=>False) w w1:=by subst hw1; exact ((Fr.refl _ _).alloc _).alloc _
 have f0:=hA.cell;have HO : OwnSpans w w1 (.slice (some ⟨w.heap.size + 1,0,none⟩) 1 1) [(0,1099511627776)]:=by
  refine ⟨⟨rfl,.inr ⟨w.heap.size + 1,1,_,rfl,Nat.zero_le _,hB,Nat.le_refl _,by unfold maxLen; decide,rfl,rfl⟩⟩,?_,hF⟩;intro k hk;simp [Value.ownBlock] at hk;omega
 clear hw1 hA hB hF;refine bodyPost_ret (v:=opVal 4 0 0 (.slice (some ⟨w.heap.size + 1,0,none⟩) 1 1)) (by simp [results,Tryz.results28,go_sem,opVal,f0]) rfl ⟨_,_,rfl,HO⟩
end
end
section
namespace T
section
variable {D D' : PlD} {i j : Nat} {t : PThread} {T N E L : Int}
theorem proper_whole : properB 4 0 [(0,1099511627776)] = true:=by decide
end
end T
end
section
open Go.RowKit
open Go.Proofs.YtfccelbmacjifabGreat.T (QT tquiets proper_whole)
section
variable {own : Own} {z : Nat} {w w' : World} {pb b : Nat} {D D' : PlD} {i j : Nat} {t : PThread} {T N E L : Int} {ps : List (Int × Int)} {o : OpV}
theorem Sz.eq {b : Nat} (h : Sz b D) (h1 : D'.N<=D.N) (h2 : D'.deeds = D.deeds) (h3 : D'.puts = D.puts) (h4 : D'.takes = D.takes) : Sz b D':=by
 unfold Sz at *;rw [h2,h3,h4]; omega
end
end
section
open Go.RowKit
def ShAt (w : World) (sb : Nat) (a : Option Addr) (c : Nat) (ps : List (Int × Int)) : Prop:=At w sb [.slice a ps.length c] 49/\PairsAt w a ps
section
variable {w w' : World} {sb : Nat} {a : Option Addr} {c : Nat} {ps : List (Int × Int)}
theorem ShAt.calm (h : ShAt w sb a c ps) (hf : Fr (fun _=>False) w w') : ShAt w' sb a c ps:=⟨hf.at h.1 (fun h=>h),h.2.calm hf⟩
theorem shValue_calls (h : ShAt w sb a c ps) (key : Int) (hsm : ps.length<=2 ^ 20) :
  Calls Tryz.prog 51 #[pv sb,.int .i64 key] w fun r w'=>r = .returned (.tuple #[.int .i64 (shVal ps key).1,.bool (shVal ps key).2])/\w' = w:=by
 have HP:=(mkH (PairsAt w a ps) <|h.2);have hc:=h.1.cell;clear h;unfold pv
 go_enter Tryz.func51,Tryz.ntmps51
 go_wp2
 go_loopw [6] (fun v wr=>∃ j : Nat,j<=ps.length/\v = .int .i64 j/\wr = w/\Hid (∀ p ∈ ps.take j,p.1≠key)) (fun v _=>ps.length - (intOf v).toNat)
 case atStart=>exact ⟨0,by omega,rfl,rfl,fun p hp=>by simp at hp⟩
 case round =>
  obtain ⟨j,hj,rfl,rfl,HN⟩:=hrel;by_cases hlt : j < ps.length
  ·have hx : Hid (ps[j]? = some ps[j]):=List.getElem?_eq_getElem hlt;generalize ps[j] = x at hx;obtain ⟨g,rfl,c0,c1⟩:=HP.out j x hx.out;by_cases hk : x.1 = key
   ·have hk' : (x.1 == key) = true:=by simpa using hk
    have HV : Hid (shVal ps key = (x.2,true)):=shVal_hit HN.out hx.out hk;clear hk;go_wp2;go_ret2;exact ⟨by rw [HV.out]; rfl,rfl⟩
   ·have hk' : (x.1 == key) = false:=by simpa using hk
    have HN2 : Hid (∀ p ∈ ps.take (j + 1),p.1≠key):=by
     intro p hp;rw [List.take_add_one,hx.out] at hp;rcases List.mem_append.1 hp with hp | hp
     ·exact HN.out p hp
     ·simp at hp; subst hp; exact hk
    clear hk;go_wp2
    go_roundw
    case rel=>exact ⟨j + 1,by omega,by go_num,trivial,HN2⟩
    case measure=>simp [intOf]; omega
  ·have HV : Hid (shVal ps key = (0,false)):=shVal_miss (by have:=HN.out; rwa [List.take_of_length_le (by omega)] at this);go_wp2;go_ret2;exact ⟨by rw [HV.out]; rfl,rfl⟩
theorem without_calls (h : ShAt w sb a c ps) (key : Int) (below : Bool) (hsm : ps.length<=2 ^ 20) :
  Calls Tryz.prog 52 #[pv sb,.int .i64 key,.bool below] w fun r w'=>∃ v,r = .returned v/\OwnPairs w w' v (ps.filter (shSide key below)):=by
 obtain ⟨iP,hiP,hzP,hsP,hbP⟩:=info_parts Tryz.infoPr;have HS:=(mkH (ShAt w sb a c ps) <|h);clear h;unfold pv
 go_enter Tryz.func52,Tryz.ntmps52
 go_wp2
 go_loopw [7,8] (fun v i wr=>∃ k : Nat,k<=ps.length/\i = .int .i64 k/\Hid (OwnPairs w wr v ((ps.take k).filter (shSide key below)))) (fun _ i _=>ps.length - (intOf i).toNat)
 case atStart=>exact ⟨0,Nat.zero_le _,rfl,⟨⟨by simp,.inl ⟨rfl,rfl⟩⟩,by intro k hk; simp [Value.ownBlock] at hk,Fr.refl _ _⟩⟩
 case round =>
  obtain ⟨k,hk,rfl,HO⟩:=hrel;have hsr:=HS.out.calm HO.out.fr;have hc:=hsr.1.cell;have HA:=(mkH (PairsAt wr a ps) <|hsr.2);clear hsr;by_cases hlt : k < ps.length
  ·have hx : Hid (ps[k]? = some ps[k]):=List.getElem?_eq_getElem hlt;generalize ps[k] = x at hx;obtain ⟨g,rfl,c0,c1⟩:=HA.out k x hx.out;have HN:=(show Hid _ from filter_take hx.out (shSide key below));clear HA;cases hin : shSide key below x
   ·have HI:=(mkH (shSide key below x = false) <|hin);cases below
    ·have hd : decide (x.1 > key) = false:=by simpa [shSide] using hin
     clear hin;go_wp2
     go_roundw
     case rel=>exact ⟨k + 1,by omega,by go_num,by show OwnPairs _ _ _ _; rw [HN.out,HI.out]; simpa using HO.out⟩
     case measure=>simp [intOf]; omega
    ·have hd : decide (x.1 < key) = false:=by simpa [shSide] using hin
     clear hin;go_wp2
     go_roundw
     case rel=>exact ⟨k + 1,by omega,by go_num,by show OwnPairs _ _ _ _; rw [HN.out,HI.out]; simpa using HO.out⟩
     case measure=>simp [intOf]; omega
   ·have HI:=(mkH (shSide key below x = true) <|hin);have HFL:=(mkH (((ps.take k).filter (shSide key below)).length<=2 ^ 40) <|Nat.le_trans (List.length_filter_le _ _) (by rw [List.length_take]; omega));have HH : Hid (∀ (g' cap : Nat) (w3 : World) (ob : Obj),w3.ownsRow 0 95 2 (.slice (some ⟨g',0,none⟩) (((ps.take k).filter (shSide key below)).length + 1) cap) (((ps.take k).filter (shSide key below)).length + 1) (((ps.take k).filter (shSide key below)).flatMap pairCells ++ [.int .i64 x.1,.int .i64 x.2])->(wr.alloc ob).grownBy w3 u7.ownBlock->(u7.ownBlock = some g'\/wr.heap.size + 1<=g')->OwnPairs w w3 (.slice (some ⟨g',0,none⟩) (((ps.take k).filter (shSide key below)).length + 1) cap) ((ps.take (k + 1)).filter (shSide key below))):=by
     intro g' cap w3 ob hown hgr hge;rw [HN.out,HI.out];refine ⟨?_,?_,Fr.grown (HO.out.fr.alloc _) hgr (fun k hk=>.inr (HO.out.new k hk))⟩
     ·simpa [pairCells] using hown
     ·intro q hq;simp [Value.ownBlock] at hq;subst hq;rcases hge with h | h
      ·exact HO.out.new _ h
      ·have:=HO.out.fr.size; first | omega | (simp at h; omega)
    cases below
    ·have hd : decide (x.1 > key) = true:=by simpa [shSide] using hin
     clear hin;go_wp2_with (at_builtin; refine wpList_push _ rfl _ _ 47 rfl 0 95 iP _ 2 16 Tryz.underlying47 hiP hzP hsP hbP rfl (by decide) _ _ _ rfl (ownsRow_alloc HO.out.row _) wr.heap.size [.int .i64 x.1,.int .i64 x.2] rfl rfl 95 (At.newAt (by simp) _ _) (by simp [Value.oneCell']) (by have:=HFL.out; unfold maxLen; omega) (by have:=HFL.out; omega) (by simp) ?_);intro g' cap w3 hown hgr hge;have HO3:=(mkH (OwnPairs _ _ _ _) <|HH.out g' cap w3 _ hown hgr hge);clear hown hgr hge;go_wp2
     go_roundw
     case rel=>exact ⟨k + 1,by omega,by go_num,HO3⟩
     case measure=>simp [intOf]; omega
    ·have hd : decide (x.1 < key) = true:=by simpa [shSide] using hin
     clear hin;go_wp2_with (at_builtin; refine wpList_push _ rfl _ _ 47 rfl 0 95 iP _ 2 16 Tryz.underlying47 hiP hzP hsP hbP rfl (by decide) _ _ _ rfl (ownsRow_alloc HO.out.row _) wr.heap.size [.int .i64 x.1,.int .i64 x.2] rfl rfl 95 (At.newAt (by simp) _ _) (by simp [Value.oneCell']) (by have:=HFL.out; unfold maxLen; omega) (by have:=HFL.out; omega) (by simp) ?_);intro g' cap w3 hown hgr hge;have HO3:=(mkH (OwnPairs _ _ _ _) <|HH.out g' cap w3 _ hown hgr hge);clear hown hgr hge;go_wp2
     go_roundw
     case rel=>exact ⟨k + 1,by omega,by go_num,HO3⟩
     case measure=>simp [intOf]; omega
  ·have hke : k = ps.length:=by omega
   subst hke;rw [List.take_length] at HO;go_wp2;go_ret;exact ⟨_,rfl,HO.out⟩
theorem cut_calls (h : ShAt w sb a c ps) (sp : Int × Int) (hsm : ps.length<=2 ^ 20) :
  Calls Tryz.prog 53 #[pv sb,.agg #[.int .i64 sp.1,.int .i64 sp.2]] w fun r w'=>∃ v,r = .returned v/\OwnPairs w w' v (ps.filter (inSpan sp)):=by
 obtain ⟨iP,hiP,hzP,hsP,hbP⟩:=info_parts Tryz.infoPr;have HS:=(mkH (ShAt w sb a c ps) <|h);have HB0:=(mkH (At (w.alloc (.cells #[.int .i64 sp.1,.int .i64 sp.2] 81)) w.heap.size [.int .i64 sp.1,.int .i64 sp.2] 81) <|At.new w [.int .i64 sp.1,.int .i64 sp.2] _);have HF0:=(mkH (Fr (fun _=>False) w (w.alloc (.cells #[.int .i64 sp.1,.int .i64 sp.2] 81))) <|(Fr.refl _ _).alloc _);clear h;unfold pv
 go_enter Tryz.func53,Tryz.ntmps53
 go_wp2
 go_loopw [5,6] (fun v i wr=>∃ k : Nat,k<=ps.length/\i = .int .i64 k/\Hid (OwnPairs w wr v ((ps.take k).filter (inSpan sp)))/\Hid (At wr w.heap.size [.int .i64 sp.1,.int .i64 sp.2] 81)/\Hid (v.ownBlock≠some w.heap.size)) (fun _ i _=>ps.length - (intOf i).toNat)
 case atStart =>
  refine ⟨0,Nat.zero_le _,rfl,⟨⟨by simp,.inl ⟨rfl,rfl⟩⟩,by intro k hk; simp [Value.ownBlock] at hk,HF0.out⟩,HB0,?_⟩;show _≠_;simp [Value.ownBlock]
 case round =>
  clear HB0 HF0;obtain ⟨k,hk,rfl,HO,HB,HNB⟩:=hrel;have hbc:=HB.out.cell;have hsr:=HS.out.calm HO.out.fr;have hc:=hsr.1.cell;have HA:=(mkH (PairsAt wr a ps) <|hsr.2);clear hsr;by_cases hlt : k < ps.length
  ·have hx : Hid (ps[k]? = some ps[k]):=List.getElem?_eq_getElem hlt;generalize ps[k] = x at hx;obtain ⟨g,rfl,c0,c1⟩:=HA.out k x hx.out;have HN:=(show Hid _ from filter_take hx.out (inSpan sp));clear HA;have HNo : Hid (inSpan sp x = false->∀ w2,Fr (fun _=>False) wr w2->∃ k' : Nat,k'<=ps.length/\Value.int .i64 ((k : Int) + 1) = .int .i64 k'/\Hid (OwnPairs w w2 u5 ((ps.take k').filter (inSpan sp)))/\Hid (At w2 w.heap.size [.int .i64 sp.1,.int .i64 sp.2] 81)/\Hid (u5.ownBlock≠some w.heap.size)):=by
    intro hin w2 hw2;exact ⟨k + 1,by omega,by go_num,by show OwnPairs _ _ _ _; rw [HN.out,hin]; simpa using HO.out.calm hw2,hw2.at HB.out (fun h=>h),HNB⟩
   by_cases h1 : x.1 ≥ sp.1
   ·have h1' : decide (x.1 ≥ sp.1) = true:=by simpa using h1
    by_cases h2 : x.1<=sp.2
    ·have h2' : decide (x.1<=sp.2) = true:=by simpa using h2
     have HI : Hid (inSpan sp x = true):=by show _ = _; simp [inSpan,isIn]; omega
     clear h1 h2;have HFL:=(mkH (((ps.take k).filter (inSpan sp)).length<=2 ^ 40) <|Nat.le_trans (List.length_filter_le _ _) (by rw [List.length_take]; omega));go_wp2_with fail
     go_quiet (fail)
     have HO2:=(mkH (OwnPairs w (wr.drewN nq) u5 _) <|HO.out.calm ((Fr.refl _ _).drewN _));have HB2:=(mkH (At (wr.drewN nq) w.heap.size _ _) <|HB.out.drewN _);go_wp2_with (at_builtin; refine wpList_push _ rfl _ _ 47 rfl 0 95 iP _ 2 16 Tryz.underlying47 hiP hzP hsP hbP rfl (by decide) _ _ _ rfl (ownsRow_alloc HO2.out.row _) wr.heap.size [.int .i64 x.1,.int .i64 x.2] rfl rfl 95 (At.newAt (by simp) _ _) (by simp [Value.oneCell']) (by have:=HFL.out; unfold maxLen; omega) (by have:=HFL.out; omega) (by simp) ?_);intro g' cap w3 hown hgr hge;have HO3 : Hid (OwnPairs w w3 (.slice (some ⟨g',0,none⟩) (((ps.take k).filter (inSpan sp)).length + 1) cap) ((ps.take (k + 1)).filter (inSpan sp))):=by
      show OwnPairs _ _ _ _;rw [HN.out,HI.out];refine ⟨?_,?_,Fr.grown (HO2.out.fr.alloc _) hgr (fun k hk=>.inr (HO2.out.new k hk))⟩
      ·simpa [pairCells] using hown
      ·intro q hq;simp [Value.ownBlock] at hq;subst hq;rcases hge with h | h
       ·exact HO2.out.new _ h
       ·have:=HO.out.fr.size; first | omega | (simp at h; omega)
     have HB3 : Hid (At w3 w.heap.size [.int .i64 sp.1,.int .i64 sp.2] 81):=(Fr.grown (S:=fun j=>u5.ownBlock = some j) (Fr.refl _ _) hgr (fun j hj=>.inl hj)).at (HB2.out.alloc _) HNB.out;have HNB3 : Hid ((Value.slice (some ⟨g',0,none⟩) (((ps.take k).filter (inSpan sp)).length + 1) cap).ownBlock≠some w.heap.size):=by
      show _≠_;intro e;simp [Value.ownBlock] at e;subst e;rcases hge with h | h
      ·exact HNB.out h
      ·have:=HB.out.lt; first | omega | (simp at h; omega)
     clear hown hgr hge HO2 HB2 HNB;go_wp2
     go_roundw
     case rel=>exact ⟨k + 1,by omega,by go_num,HO3,HB3,HNB3⟩
     case measure=>simp [intOf]; omega
    ·have h2' : decide (x.1<=sp.2) = false:=by simpa using h2
     have HI : Hid (inSpan sp x = false):=by show _ = _; simp [inSpan,isIn]; omega
     clear h1 h2;go_wp2_with fail
     go_quiet (fail)
     go_wp2
     go_roundw
     case rel=>exact HNo.out HI.out _ ((Fr.refl _ _).drewN _)
     case measure=>simp [intOf]; omega
   ·have h1' : decide (x.1 ≥ sp.1) = false:=by simpa using h1
    have HI : Hid (inSpan sp x = false):=by show _ = _; simp [inSpan,isIn]; omega
    clear h1;go_wp2_with fail
    go_quiet (fail)
    go_wp2
    go_roundw
    case rel=>exact HNo.out HI.out _ ((Fr.refl _ _).drewN _)
    case measure=>simp [intOf]; omega
  ·have hke : k = ps.length:=by omega
   have HO' : Hid (OwnPairs w wr u5 (ps.filter (inSpan sp))):=by
    have:=HO.out
    rw [hke,List.take_length] at this;exact this
   clear HO hke;go_wp2;go_ret;exact ⟨u5,rfl,HO'.out⟩
end
end
section
open Go.RowKit
section
variable {w w' : World} {sb : Nat} {a : Option Addr} {c : Nat} {ps : List (Int × Int)}
def zeroAns : List Value:=[.int .i64 0,.bool false,.int .i64 0,.int .i64 0,.slice none 0 0]
theorem copy5 {w : World} {b : Nat} {a0 a1 a2 a3 a4 : Value} {T : TypeId} (h : At w b [a0,a1,a2,a3,a4] T) (v0 v1 v2 v3 v4 : Value) : At (((((w.setCell ⟨b,0,none⟩ v0).setCell ⟨b,1,none⟩ v1).setCell ⟨b,2,none⟩ v2).setCell ⟨b,3,none⟩ v3).setCell ⟨b,4,none⟩ v4) b [v0,v1,v2,v3,v4] T :=
 ((((h.set 0 v0).set 1 v1).set 2 v2).set 3 v3).set 4 v4
theorem frCopy5 {S : Nat->Prop} {w0 w : World} {b : Nat} (hb : w0.heap.size<=b) (h : Fr S w0 w) (v0 v1 v2 v3 v4 : Value) : Fr S w0 (((((w.setCell ⟨b,0,none⟩ v0).setCell ⟨b,1,none⟩ v1).setCell ⟨b,2,none⟩ v2).setCell ⟨b,3,none⟩ v3).setCell ⟨b,4,none⟩ v4) :=
 Fr.setNew hb (Fr.setNew hb (Fr.setNew hb (Fr.setNew hb (Fr.setNew hb h 0 v0) 1 v1) 2 v2) 3 v3) 4 v4
theorem does_start (w : World) (kind key value : Int) (sv : Value) : ∃ w1 : World,w1 = ((w.alloc (.cells #[.int .i64 kind,.int .i64 key,.int .i64 value,sv] 53)).alloc (.cells #[.int .i64 0,.bool false,.int .i64 0,.int .i64 0,.slice none 0 0] 69)).alloc (.cells #[.int .i64 0,.bool false,.int .i64 0,.int .i64 0,.slice none 0 0] 69)/\At w1 w.heap.size [.int .i64 kind,.int .i64 key,.int .i64 value,sv] 53/\At w1 (w.heap.size + 1) zeroAns 69/\At w1 (w.heap.size + 1 + 1) zeroAns 69/\Fr (fun _=>False) w w1/\w1.heap.size = w.heap.size + 3 :=
 ⟨_,rfl,((At.new w _ _).alloc _).alloc _,(At.newAt (by simp) _ _).alloc _,At.newAt (by simp) _ _,(((Fr.refl _ _).alloc _).alloc _).alloc _,by simp⟩
theorem does_look (h : ShAt w sb a c ps) (key value : Int) (sv : Value) (hsm : ps.length<=2 ^ 20) :
  Calls Tryz.prog 34 #[pv sb,opVal 3 key value sv] w fun r w'=>r = .returned (ansV { did:=(shVal ps key).2,value:=(shVal ps key).1 } (.slice none 0 0))/\Fr (fun _=>False) w w':=by
 have HS:=(mkH (ShAt w sb a c ps) <|h);clear h;have HC:=(mkH (∀ w1,ShAt w1 sb a c ps->Calls Tryz.prog 51 #[pv sb,.int .i64 key] w1 _) <|fun w1 h=>shValue_calls h key hsm);generalize shVal ps key = x at HC ⊢;obtain ⟨x1,x2⟩:=x;unfold pv at HC ⊢;unfold opVal
 go_enter Tryz.func34,Tryz.ntmps34
 go_wp2_with fail;obtain ⟨w1,e1,hO,hR,hV,hF,hs⟩:=does_start w 3 key value sv;rw [<- e1];refine (HC.out w1 (HS.out.calm hF)).mono ?_;rintro r w2 ⟨rfl,rfl⟩;clear e1;have ho:=hO.cell;have hr:=hR.cell;have hrz:=hR.frozen;have hv:=hV.cell;have hvz:=hV.frozen;have n1 : w.heap.size + 1≠w.heap.size + 1 + 1:=by omega
 have n2 : w.heap.size + 1 + 1≠w.heap.size + 1:=by omega
 have n3 : w.heap.size≠w.heap.size + 1 + 1:=by omega
 have n4 : w.heap.size + 1 + 1≠w.heap.size:=by omega
 have HF:=(mkH (Fr _ w w2) <|hF);have hf0:=(copy5 ((hR.setOther ⟨w.heap.size + 1 + 1,1,none⟩ n1 (.bool x2)).setOther ⟨w.heap.size + 1 + 1,2,none⟩ n1 (.int .i64 x1)) (.int .i64 0) (.bool x2) (.int .i64 x1) (.int .i64 0) (.slice none 0 0)).cell;unfold zeroAns at hr hv;clear hO hR hV hF;go_wp2;exact bodyPost_ret (v:=ansV { did:=x2,value:=x1 } (.slice none 0 0)) (by simp [results,Tryz.results34,go_sem,ansV,hf0]) rfl ⟨rfl,frCopy5 (by omega) (Fr.setNew (by omega) (Fr.setNew (by omega) HF.out _ _) _ _) _ _ _ _ _⟩
theorem does_not (h : ShAt w sb a c ps) (kind key value : Int) (sv : Value) (hsm : ps.length<=2 ^ 20) (hk : kind = 1\/kind = 2) (hd : (shVal ps key).2 = decide (kind = 1)) :
  Calls Tryz.prog 34 #[pv sb,opVal kind key value sv] w fun r w'=>r = .returned (ansV {} (.slice none 0 0))/\Fr (fun _=>False) w w':=by
 have HS:=(mkH (ShAt w sb a c ps) <|h);clear h;have HC:=(mkH (∀ w1,ShAt w1 sb a c ps->Calls Tryz.prog 51 #[pv sb,.int .i64 key] w1 _) <|fun w1 h=>shValue_calls h key hsm);generalize shVal ps key = x at HC hd ⊢;obtain ⟨x1,x2⟩:=x;simp only at hd;unfold pv at HC ⊢;unfold opVal;obtain ⟨w1,e1,hO,hR,hV,hF,hs⟩:=does_start w kind key value sv;have ho:=hO.cell;have hr:=hR.cell;have hrz:=hR.frozen;have hv:=hV.cell;have hvz:=hV.frozen;have n1 : w.heap.size + 1≠w.heap.size + 1 + 1:=by omega
 have n2 : w.heap.size + 1 + 1≠w.heap.size + 1:=by omega
 have n3 : w.heap.size≠w.heap.size + 1 + 1:=by omega
 have n4 : w.heap.size + 1 + 1≠w.heap.size:=by omega
 have HF:=(mkH (Fr _ w w1) <|hF);have hf0:=(copy5 (hR.setOther ⟨w.heap.size + 1 + 1,1,none⟩ n1 (.bool false)) (.int .i64 0) (.bool false) (.int .i64 0) (.int .i64 0) (.slice none 0 0)).cell;unfold zeroAns at hr hv;have E1:=(mkH (_ = _) <|e1);clear hO hR hV hF e1;rcases hk with rfl | rfl
 ·simp at hd;subst hd
  go_enter Tryz.func34,Tryz.ntmps34
  go_wp2_with fail;rw [<- E1.out];refine (HC.out w1 (HS.out.calm HF.out)).mono ?_;rintro r w2 ⟨rfl,rfl⟩;clear E1;go_wp2;exact bodyPost_ret (v:=ansV {} (.slice none 0 0)) (by simp [results,Tryz.results34,go_sem,ansV,hf0]) rfl ⟨rfl,frCopy5 (by omega) (Fr.setNew (by omega) HF.out _ _) _ _ _ _ _⟩
 ·simp at hd;subst hd
  go_enter Tryz.func34,Tryz.ntmps34
  go_wp2_with fail;rw [<- E1.out];refine (HC.out w1 (HS.out.calm HF.out)).mono ?_;rintro r w2 ⟨rfl,rfl⟩;clear E1;go_wp2;exact bodyPost_ret (v:=ansV {} (.slice none 0 0)) (by simp [results,Tryz.results34,go_sem,ansV,hf0]) rfl ⟨rfl,frCopy5 (by omega) (Fr.setNew (by omega) HF.out _ _) _ _ _ _ _⟩
end
end
section
open Go.RowKit
section
variable {w w' : World} {sb : Nat} {a : Option Addr} {c : Nat} {ps : List (Int × Int)}
theorem does_scan (h : ShAt w sb a c ps) (key value : Int) (b : Option Addr) (d : Nat) (spans : List (Int × Int)) (h16 : spans.length<=16) (hb : PairsAt w b spans) (hsm : ps.length<=2 ^ 20) :
  Calls Tryz.prog 34 #[pv sb,opVal 4 key value (.slice b spans.length d)] w fun r w'=>∃ va vn vc,r = .returned (ansV (answerOf spans ps 0) (.slice va vn vc))/\OwnLists w w' (.slice va vn vc) (answerOf spans ps 0).spans:=by
 obtain ⟨iP,hiP,hzP,hsP,hbP⟩:=info_parts Tryz.infoPs;have HS:=(mkH (ShAt w sb a c ps) <|h);have HP:=(mkH (PairsAt w b spans) <|hb);have HC:=(mkH (∀ w1,ShAt w1 sb a c ps->Calls Tryz.prog 51 #[pv sb,.int .i64 key] w1 _) <|fun w1 h=>shValue_calls h key hsm);generalize shVal ps key = x at HC;obtain ⟨x1,x2⟩:=x;have HU : Hid (∀ (w1 : World) (sp : Int × Int),ShAt w1 sb a c ps->Calls Tryz.prog 53 #[pv sb,.agg #[.int .i64 sp.1,.int .i64 sp.2]] w1 fun r w'=>∃ v,r = .returned v/\OwnPairs w1 w' v (ps.filter (inSpan sp))):=fun w1 sp h=>cut_calls h sp hsm
 have HLn : Hid (∀ k,lensOf (spanLists (spans.take k) ps)<=16 * 2 ^ 20):=by
  intro k;have key : ∀ l : List (Int × Int),lensOf (spanLists l ps)<=l.length * 2 ^ 20:=by
   intro l
   induction l with
   | nil=>simp [spanLists,lensOf]
   | cons x r ih =>
    have h1 : (ps.filter (inSpan x)).length<=2 ^ 20:=Nat.le_trans (List.length_filter_le _ _) hsm;have h2 : lensOf (spanLists (x :: r) ps) = (ps.filter (inSpan x)).length + lensOf (spanLists r ps):=rfl;rw [h2,List.length_cons,Nat.add_mul];omega
  exact Nat.le_trans (key _) (Nat.mul_le_mul_right _ (by rw [List.length_take]; omega))
 clear h hb;unfold pv at HC HU ⊢;unfold opVal;obtain ⟨w1,e1,hO,hR,hV,hF,hs⟩:=does_start w 4 key value (.slice b spans.length d);have ho:=hO.cell;have HO0:=(mkH (At w1 w.heap.size _ 53) <|hO);have HR0:=(mkH (At w1 (w.heap.size + 1) _ 69) <|hR);have HV0:=(mkH (At w1 (w.heap.size + 1 + 1) _ 69) <|hV);have HF0:=(mkH (Fr _ w w1) <|hF);have E1:=(mkH (_ = _) <|e1);clear hO hR hV hF e1
 go_enter Tryz.func34,Tryz.ntmps34
 go_wp2_with fail;rw [<- E1.out];refine (HC.out w1 (HS.out.calm HF0.out)).mono ?_;rintro r w2 ⟨rfl,rfl⟩;clear E1 HC;go_wp2
 go_loopw [11,12] (fun cnt i wr=>∃ k : Nat,k<=spans.length/\i = .int .i64 k/\cnt = .int .i64 (lensOf (spanLists (spans.take k) ps))/\∃ va vn vc,Hid (OwnLists w wr (.slice va vn vc) (spanLists (spans.take k) ps))/\Hid (At wr (w.heap.size + 1 + 1) [.int .i64 0,.bool false,.int .i64 0,.int .i64 0,.slice va vn vc] 69)/\Hid (At wr (w.heap.size + 1) [.int .i64 0,.bool false,.int .i64 0,.int .i64 0,.slice none 0 0] 69)/\Hid (At wr w.heap.size [.int .i64 4,.int .i64 key,.int .i64 value,.slice b spans.length d] 53)) (fun _ i _=>spans.length - (intOf i).toNat)
 case atStart =>
  refine ⟨0,Nat.zero_le _,rfl,rfl,none,0,0,?_,HV0,HR0,HO0⟩;exact ⟨fun _=>rfl,⟨[],rfl,⟨by simp [spanLists],.inl ⟨rfl,rfl⟩⟩,by intro i u l hu; simp at hu⟩,by intro k hk; simp [Value.ownBlock] at hk,HF0.out⟩
 case round =>
  clear HV0 HR0 HO0 HF0 ho;obtain ⟨k,hk,rfl,rfl,va,vn,vc,HO,HX,HY,HZ⟩:=hrel;have hxc:=HX.out.cell;have hyc:=HY.out.cell;have hzc:=HZ.out.cell;by_cases hlt : k < spans.length
  ·have hx : Hid (spans[k]? = some spans[k]):=List.getElem?_eq_getElem hlt;generalize spans[k] = x at hx;obtain ⟨g,rfl,c0,c1⟩:=(HP.out.calm HO.out.fr) k x hx.out;have HN:=(show Hid _ from spanLists_take (noted:=ps) hx.out);have HLk:=(show Hid _ from HLn.out k);clear hyc;go_wp2_with fail;refine (HU.out wr x (HS.out.calm HO.out.fr)).mono ?_;rintro r w1 ⟨u,rfl,hO⟩;obtain ⟨ua,uc,rfl⟩:=ownsShape hO.row;have HO1:=(mkH (OwnLists w w1 _ _) <|HO.out.calm hO.fr);have HU:=(mkH (OwnPairs wr w1 _ _) <|hO);have HX1:=(mkH (At w1 (w.heap.size + 1 + 1) _ _) <|hO.fr.at HX.out (fun h=>h));have HY1:=(mkH (At w1 (w.heap.size + 1) _ _) <|hO.fr.at HY.out (fun h=>h));have HZ1:=(mkH (At w1 w.heap.size _ _) <|hO.fr.at HZ.out (fun h=>h));have HSW:=(mkH (w.heap.size<=wr.heap.size) <|HO.out.fr.size);have hxc:=HX1.out.cell;have hxz:=HX1.out.frozen;have hxl:=HX1.out.lt;have HFL:=(mkH ((ps.filter (inSpan x)).length<=2 ^ 20) <|Nat.le_trans (List.length_filter_le _ _) hsm);obtain ⟨ins,hi1,hi2,hi3⟩:=HO1.out.top;have HT:=(mkH (w1.ownsRow 0 47 1 (.slice va vn vc) (spanLists (spans.take k) ps).length ins) <|hi2);have HI:=(mkH (ins.length = (spanLists (spans.take k) ps).length/\_) <|⟨hi1,hi3⟩);have HLL:=(mkH ((spanLists (spans.take k) ps).length<=16) <|by show _<=_; unfold spanLists; rw [List.length_map,List.length_take]; omega);clear hO HO HX HY HZ c0 c1 hi1 hi2 hi3 hzc;have hlf:=HFL.out;have hlk:=HLk.out;go_wp2_with (at_builtin; refine wpList_push _ rfl _ _ 67 rfl 0 47 iP _ 1 24 Tryz.underlying67 hiP hzP hsP hbP rfl (by decide) _ _ _ rfl (ownsRow_alloc HT.out _) w1.heap.size [.slice ua (ps.filter (inSpan x)).length uc] rfl rfl 47 (At.newAt (by simp) _ _) (by simp [Value.oneCell']) (by have:=HLL.out; unfold maxLen; omega) (by have:=HLL.out; omega) (by simp) ?_);intro g' cap w3 hown hgr hge;have HO3:=(mkH (OwnLists w w3 (.slice (some ⟨g',0,none⟩) ((spanLists (spans.take k) ps).length + 1) cap) (spanLists (spans.take k) ps ++ [ps.filter (inSpan x)])) <|HO1.out.push HI.out.1 HT.out HI.out.2 HU.out.row (fun q hq=>Nat.le_trans HSW.out (HU.out.new q hq)) rfl hown hgr (by rcases hge with h | h; exact .inl h; exact .inr (by simpa using h)));have hFg : Fr (fun j=>(Value.slice va vn vc).ownBlock = some j) w1 w3:=Fr.grown (Fr.alloc (Fr.refl _ _) _) hgr (fun j hj=>.inl hj);have HX3:=(mkH (At w3 (w.heap.size + 1 + 1) _ _) <|hFg.at HX1.out (HX1.out.ne_row HT.out (by decide)));have HY3:=(mkH (At w3 (w.heap.size + 1) _ _) <|hFg.at HY1.out (HY1.out.ne_row HT.out (by decide)));have HZ3:=(mkH (At w3 w.heap.size _ _) <|hFg.at HZ1.out (HZ1.out.ne_row HT.out (by decide)));have hxc:=HX3.out.cell;have hxz:=HX3.out.frozen;clear hown hgr hge hFg HO1 HU HX1 HY1 HZ1 HT HI hxl;go_wp2
   go_roundw
   case rel =>
    refine ⟨k + 1,by omega,by go_num,?_,some ⟨g',0,none⟩,_,cap,by show OwnLists _ _ _ _; rw [HN.out]; exact HO3.out.setOther HX3.out (by decide) (by decide) (by omega) 4 _,HX3.out.set 4 _,HY3.out.setOther _ (by show w.heap.size + 1≠w.heap.size + 1 + 1; omega) _,HZ3.out.setOther _ (by show w.heap.size≠w.heap.size + 1 + 1; omega) _⟩;rw [HN.out,lens_app];simp [lensOf]
   case measure=>simp [intOf]; omega
  ·have hke : k = spans.length:=by omega
   have HE : Hid (spanLists (spans.take k) ps = spanLists spans ps):=by show _ = _; rw [hke,List.take_length]
   rw [HE.out];have HO':=(mkH (OwnLists w wr (.slice va vn vc) (spanLists spans ps)) <|by rw [<- HE.out]; exact HO.out);have hlk:=HLn.out spans.length;rw [List.take_length] at hlk;have hyz:=HY.out.frozen;have hyl:=HY.out.lt;clear hke HO;generalize hL : lensOf (spanLists spans ps) = n at hlk ⊢;have HL:=(mkH (lensOf (spanLists spans ps) = n) <|hL);clear hL;have hb1 : w.heap.size<=w.heap.size + 1:=by omega
   by_cases h64 : 64 < n
   ·have HAn : Hid (answerOf spans ps 0 = { err:=9 }):=by show _ = _; unfold answerOf; rw [HL.out,if_pos h64]
    have f0:=(copy5 HY.out (.int .i64 9) (.bool false) (.int .i64 0) (.int .i64 0) (.slice none 0 0)).cell;have HF:=(mkH (Fr (fun _=>False) w _) <|frCopy5 hb1 HO'.out.fr (.int .i64 9) (.bool false) (.int .i64 0) (.int .i64 0) (.slice none 0 0));go_wp2;rw [HAn.out];exact bodyPost_ret (v:=ansV { err:=9 } (.slice none 0 0)) (by simp [results,Tryz.results34,go_sem,ansV,f0]) rfl ⟨none,0,0,rfl,fun _=>rfl,⟨[],rfl,⟨by simp,.inl ⟨rfl,rfl⟩⟩,by intro i u l hu; simp at hu⟩,by intro k hk; simp [Value.ownBlock] at hk,HF.out⟩
   ·have HAn : Hid (answerOf spans ps 0 = { spans:=spanLists spans ps }):=by show _ = _; unfold answerOf; rw [HL.out,if_neg h64]
    have hA0:=HY.out.set 0 (.int .i64 0);have hA1:=hA0.set 1 (.bool false);have hA2:=hA1.set 2 (.int .i64 0);have hA3:=hA2.set 3 (.int .i64 0);have f0:=(hA3.set 4 (.slice va vn vc)).cell;have HZ:=(mkH (OwnLists w _ _ _) <|((((HO'.out.setOther HY.out (by decide) (by decide) hb1 0 (.int .i64 0)).setOther hA0 (by decide) (by decide) hb1 1 (.bool false)).setOther hA1 (by decide) (by decide) hb1 2 (.int .i64 0)).setOther hA2 (by decide) (by decide) hb1 3 (.int .i64 0)).setOther hA3 (by decide) (by decide) hb1 4 (.slice va vn vc));clear hA0 hA1 hA2 hA3;go_wp2;rw [HAn.out];exact bodyPost_ret (v:=ansV { spans:=spanLists spans ps } (.slice va vn vc)) (by simp [results,Tryz.results34,go_sem,ansV,f0]) rfl ⟨va,vn,vc,rfl,HZ.out⟩
end
end
end Go.Proofs.YtfccelbmacjifabGreat
