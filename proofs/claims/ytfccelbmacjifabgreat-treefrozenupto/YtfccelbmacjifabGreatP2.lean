import Derived.Test.YtfccelbmacjifabGreatP0
import Derived.Test.YtfccelbmacjifabGreatP1
import Derived.Test.YtfccelbmacjifabGreatRows
import Derived.ProofKit
import Derived.Lib.SmallJoins
import Derived.OpenShut
import Derived.ChangeOld
import Derived.JoinedCond
set_option linter.unusedSimpArgs false
set_option maxRecDepth 100000
set_option maxHeartbeats 4000000
namespace Go.Proofs.YtfccelbmacjifabGreat
section
open Go.RowKit
structure VAns where
 err : Int
 did : Bool
 value : Int
 stamp : Int
def VAns.zero : VAns:=⟨0,false,0,0⟩
structure VWork where
 kind : Int
 key : Int
 value : Int
 spans : Value
 next : Int
 time : Int
 stand : Int
 ahead : Int
 above : Int
 locks : Int
 made : Value
 tsrc : Int
 tside : Int
 links : Value
 noted : Value
 ans : VAns
 aspans : Value
def VWork.zero : VWork:=⟨0,0,0,.slice none 0 0,0,0,0,0,0,0,.slice none 0 0,0,0,.slice none 0 0,.slice none 0 0,VAns.zero,.slice none 0 0⟩
structure VWorker where
 number : Int
 slot : Int
 busy : Bool
 work : VWork
 hasEnded : Bool
 last : VAns
 lspans : Value
def VWorker.cells (t : VWorker) : List Value :=
 [.int .i64 t.number,.int .i64 t.slot,.bool t.busy,
  .int .i64 t.work.kind,.int .i64 t.work.key,.int .i64 t.work.value,t.work.spans,.int .i64 t.work.next,.int .i64 t.work.time,.int .i64 t.work.stand,.int .i64 t.work.ahead,.int .i64 t.work.above,.int .i64 t.work.locks,t.work.made,.int .i64 t.work.tsrc,.int .i64 t.work.tside,t.work.links,t.work.noted,
  .int .i64 t.work.ans.err,.bool t.work.ans.did,.int .i64 t.work.ans.value,.int .i64 t.work.ans.stamp,t.work.aspans,
  .bool t.hasEnded,.int .i64 t.last.err,.bool t.last.did,.int .i64 t.last.value,.int .i64 t.last.stamp,t.lspans]
def VWorker.new (n : Int) : VWorker:=⟨n,0,false,VWork.zero,false,VAns.zero,.slice none 0 0⟩
structure VSweep where
 made : Int
 clock : Int
 retired : Value
 hasTime : Bool
 time : Int
def VSweep.zero : VSweep:=⟨0,0,.slice none 0 0,false,0⟩
structure XLay where
 s : Nat
 l : MLay
 tb : Nat
 tcap : Nat
 wks : List Nat
structure XSt where
 kind : Int
 limit : Int
 clock : Int
 mem : PMem
 ts : List VWorker
 sweep : VSweep
def ptrs (l : List Nat) : List Value:=l.map fun b=>.pointer (some ⟨b,0,none⟩)
structure XAt (w : World) (L : XLay) (X : XSt) : Prop where
 hd : At w L.s [.int .i64 X.kind,.int .i64 X.limit,.int .i64 X.clock,.pointer (some ⟨L.l.m,0,none⟩),.slice (some ⟨L.tb,0,none⟩) X.ts.length L.tcap,
  .int .i64 X.sweep.made,.int .i64 X.sweep.clock,X.sweep.retired,.bool X.sweep.hasTime,.int .i64 X.sweep.time] 109
 mem : MAt w L.l X.mem
 thr : w.ownsRow 0 111 1 (.slice (some ⟨L.tb,0,none⟩) X.ts.length L.tcap) X.ts.length (ptrs L.wks)
 len : L.wks.length = X.ts.length
 wk : ∀ (i b : Nat) (t : VWorker),L.wks[i]? = some b->X.ts[i]? = some t->At w b t.cells 118
 few : X.ts.length<=8
 apart : L.wks.Nodup
def XLay.own (L : XLay) (k : Nat) : Prop:=k = L.s\/k = L.l.m\/k = L.l.nb\/k = L.l.eb\/k = L.tb\/k ∈ L.wks
section
variable {w w' : World} {L : XLay} {X : XSt}
end
end
section
open Go.RowKit
theorem isWithin_calls (n a b : Int) (w : World) :
  Calls Tryz.prog 69 #[.int .i64 n,.int .i64 a,.int .i64 b] w fun e w'=>e = .returned (.bool (isIn n a b))/\w' = w:=by
 by_cases h1 : a<=n
 ·by_cases h2 : n<=b
  ·go_enter Tryz.func69,Tryz.ntmps69
   go_wp2;go_ret;exact ⟨ret_bool (isIn_true (by omega)).symm,rfl⟩
  ·go_enter Tryz.func69,Tryz.ntmps69
   go_wp2;go_ret;exact ⟨ret_bool (isIn_false (by omega)).symm,rfl⟩
 ·go_enter Tryz.func69,Tryz.ntmps69
  go_wp2;go_ret;exact ⟨ret_bool (isIn_false (by omega)).symm,rfl⟩
def cfg (k t n e l : Int) : Value:=.agg #[.int .i64 k,.int .i64 t,.int .i64 n,.int .i64 e,.int .i64 l]
def okCfg (k t n e l : Int) : Bool:=isIn k 0 1 && isIn t 1 8 && isIn n 0 64 && isIn e 1 256 && isIn l 0 1099511627776
theorem isConfig_calls (k t n e l : Int) (w : World) :
  Calls Tryz.prog 58 #[cfg k t n e l] w fun r w'=>r = .returned (.bool (okCfg k t n e l))/\Fr (fun _=>False) w w':=by
 unfold cfg;by_cases hk : k = 0\/k = 1
 ·have h0 : isIn k 0 1 = true:=isIn_true (by omega);cases ht : isIn t 1 8
  ·have hv : Hid (okCfg k t n e l = false):=by show _ = _; simp [okCfg,ht]
   rcases hk with rfl | rfl
   all_goals
    go_enter Tryz.func58,Tryz.ntmps58
    go_wp2_with (go_at_call 69; refine (isWithin_calls _ _ _ _).mono ?_; rintro e w' ⟨rfl,rfl⟩);go_ret;exact ⟨ret_bool hv.out.symm,(Fr.refl _ _).alloc _⟩
  ·cases hn : isIn n 0 64
   ·have hv : Hid (okCfg k t n e l = false):=by show _ = _; simp [okCfg,hn]
    rcases hk with rfl | rfl
    all_goals
     go_enter Tryz.func58,Tryz.ntmps58
     go_wp2_with (go_at_call 69; refine (isWithin_calls _ _ _ _).mono ?_; rintro e w' ⟨rfl,rfl⟩);go_ret;exact ⟨ret_bool hv.out.symm,(Fr.refl _ _).alloc _⟩
   ·cases he : isIn e 1 256
    ·have hv : Hid (okCfg k t n e l = false):=by show _ = _; simp [okCfg,he]
     rcases hk with rfl | rfl
     all_goals
      go_enter Tryz.func58,Tryz.ntmps58
      go_wp2_with (go_at_call 69; refine (isWithin_calls _ _ _ _).mono ?_; rintro e w' ⟨rfl,rfl⟩);go_ret;exact ⟨ret_bool hv.out.symm,(Fr.refl _ _).alloc _⟩
    ·have hv : Hid (okCfg k t n e l = isIn l 0 1099511627776):=by show _ = _; simp [okCfg,h0,ht,hn,he]
     rcases hk with rfl | rfl
     all_goals
      go_enter Tryz.func58,Tryz.ntmps58
      go_wp2_with (go_at_call 69; refine (isWithin_calls _ _ _ _).mono ?_; rintro e w' ⟨rfl,rfl⟩);go_ret;exact ⟨ret_bool hv.out.symm,(Fr.refl _ _).alloc _⟩
 ·have h0 : isIn k 0 1 = false:=isIn_false (by omega);have hv : Hid (okCfg k t n e l = false):=by show _ = _; simp [okCfg,h0]
  have h1 : (k != 0) = true:=by rw [bne_iff_ne]; omega
  have h2 : (k != 1) = true:=by rw [bne_iff_ne]; omega
  go_enter Tryz.func58,Tryz.ntmps58
  go_wp2_with (go_at_call 69; refine (isWithin_calls _ _ _ _).mono ?_; rintro e w' ⟨rfl,rfl⟩);go_ret;exact ⟨ret_bool hv.out.symm,(Fr.refl _ _).alloc _⟩
theorem Tryz.infoWorkerPtr : (Tryz.prog.info? 111).map (fun i=>(i.zero,i.size,i.bytes)) = some (some (.pointer none),1,8):=by kernel_rfl
def freshTs (k : Nat) : List VWorker:=(List.range k).map fun (i : Nat)=>VWorker.new i
def freshX (k t n e l : Int) : XSt :=
 { kind:=k,limit:=l,clock:=0,mem:=freshMem n.toNat e.toNat,ts:=freshTs t.toNat,sweep:=VSweep.zero }
theorem freshTs_get {k i : Nat} {t : VWorker} (h : (freshTs k)[i]? = some t) : i < k/\t = VWorker.new i:=by
 have hi : i < k:=by have:=(List.getElem?_eq_some_iff.1 h).1; simpa [freshTs] using this
 refine ⟨hi,?_⟩;simp [freshTs,hi] at h;exact h.symm
theorem freshTs_len (k : Nat) : (freshTs k).length = k:=by simp [freshTs]
structure XGrows (w wr : World) (kd l : Int) (s : Nat) (ml : MLay) (tv : Value) (wks : List Nat) (M : PMem) : Prop where
 hd : At wr s [.int .i64 kd,.int .i64 l,.int .i64 0,.pointer (some ⟨ml.m,0,none⟩),tv,.int .i64 0,.int .i64 0,.slice none 0 0,.bool false,.int .i64 0] 109
 mem : MAt wr ml M
 thr : wr.ownsRow w.heap.size 111 1 tv wks.length (ptrs wks)
 wk : ∀ i b : Nat,wks[i]? = some b->At wr b (VWorker.new i).cells 118
 apart : wks.Nodup
 new : ∀ b,b ∈ wks->w.heap.size<=b
 fr : Fr (fun _=>False) w wr
 hs : w.heap.size<=s
section
variable {w wr w1 : World} {kd l : Int} {s : Nat} {ml : MLay} {tv : Value} {wks : List Nat} {M : PMem}
theorem XGrows.push (h : XGrows w wr kd l s ml tv wks M) {g cap b : Nat} {v : List Value} (hb : b = wr.heap.size)
  (ho : w1.ownsRow w.heap.size 111 1 (.slice (some ⟨g,0,none⟩) (wks.length + 1) cap) (wks.length + 1) (ptrs wks ++ [.pointer (some ⟨b,0,none⟩)]))
  (hg : ((wr.alloc (.cells (VWorker.new wks.length).cells.toArray 118)).alloc (.cells v.toArray 111)).grownBy w1 tv.ownBlock) :
  At w1 s [.int .i64 kd,.int .i64 l,.int .i64 0,.pointer (some ⟨ml.m,0,none⟩),tv,.int .i64 0,.int .i64 0,.slice none 0 0,.bool false,.int .i64 0] 109 /\
  XGrows w (w1.setCell ⟨s,4,none⟩ (.slice (some ⟨g,0,none⟩) (wks.length + 1) cap)) kd l s ml (.slice (some ⟨g,0,none⟩) (wks.length + 1) cap) (wks ++ [b]) M:=by
 subst hb;have hA : At w1 s [.int .i64 kd,.int .i64 l,.int .i64 0,.pointer (some ⟨ml.m,0,none⟩),tv,.int .i64 0,.int .i64 0,.slice none 0 0,.bool false,.int .i64 0] 109:=((h.hd.alloc _).alloc _).grown hg (h.hd.ne_row (ownsRow_base h.thr) (by decide));have hrow : ∀ k,tv.ownBlock = some k->w.heap.size<=k/\k < wr.heap.size:=h.thr.lt;have hM : MAt w1 ml M:=by
  refine ⟨((h.mem.hd.alloc _).alloc _).grown hg (h.mem.hd.ne_row (ownsRow_base h.thr) (by decide)),((h.mem.nodes.alloc _).alloc _).kept hg ?_,((h.mem.ents.alloc _).alloc _).kept hg ?_,h.mem.nsmall,h.mem.esmall⟩
  ·exact ownsRow_ne h.mem.nodes (ownsRow_base h.thr) (by decide)
  ·exact ownsRow_ne h.mem.ents (ownsRow_base h.thr) (by decide)
 have hW : ∀ i b : Nat,(wks ++ [wr.heap.size])[i]? = some b->At w1 b (VWorker.new i).cells 118:=by
  intro i b hi;by_cases hlt : i < wks.length
  ·rw [List.getElem?_append_left hlt] at hi;exact (((h.wk i b hi).alloc _).alloc _).grown hg ((h.wk i b hi).ne_row (ownsRow_base h.thr) (by decide))
  ·have hi' : i = wks.length:=by
    have:=(List.getElem?_eq_some_iff.1 hi).1
    simp at this; omega
   subst hi';simp at hi; subst hi;have hnew:=(At.new wr (VWorker.new wks.length).cells 118).alloc (.cells v.toArray 111);refine hnew.grown hg ?_;intro he
   have:=(hrow _ he).2
   omega
 refine ⟨hA,hA.set 4 _,?_,?_,?_,?_,?_,?_,h.hs⟩
 ·exact ⟨(MemAt.hd hM).setOther _ ((MemAt.hd hM).ne hA (by decide)) _,ownsRow_setOther (MemAt.nodes hM) (hA.ne_row (MemAt.nodes hM) (by decide)) _,ownsRow_setOther (MemAt.ents hM) (hA.ne_row (MemAt.ents hM) (by decide)) _,(MemAt.nsmall hM),(MemAt.esmall hM)⟩
 ·have e : ptrs (wks ++ [wr.heap.size]) = ptrs wks ++ [.pointer (some ⟨wr.heap.size,0,none⟩)]:=by simp [ptrs]
  rw [e,List.length_append];exact ownsRow_setOtherB ho (hA.ne_row (ownsRow_base ho) (by decide)) _
 ·intro i b hi;exact (hW i b hi).setOther _ ((hW i b hi).ne hA (by decide)) _
 ·rw [List.nodup_append];refine ⟨h.apart,by simp,?_⟩;intro a ha b hb;simp at hb; subst hb;obtain ⟨i,hi⟩:=List.getElem?_of_mem ha
  have:=(h.wk i a hi).lt
  omega
 ·intro b hb;simp at hb;rcases hb with hb | rfl
  ·exact h.new b hb
  ·exact h.fr.size
 ·exact Fr.setNew h.hs (((h.fr.alloc _).alloc _).grown hg (fun k hk=>.inr (hrow k hk).1)) _ _
end
theorem XNew_yes (k t n e l : Int) (w : World) (hok : okCfg k t n e l = true) :
  Calls Tryz.prog 41 #[cfg k t n e l] w fun r w'=>∃ L : XLay,r = .returned (.tuple #[.pointer (some ⟨L.s,0,none⟩),.int .i64 0])/\XAt w' L (freshX k t n e l)/\Fr (fun _=>False) w w'/\∀ b,L.own b->w.heap.size<=b:=by
 have Hok : Hid (okCfg k t n e l = true):=hok;have hb : (0<=k/\k<=1)/\(1<=t/\t<=8)/\(0<=n/\n<=64)/\(1<=e/\e<=256)/\(0<=l/\l<=1099511627776):=by
  simp only [okCfg,Bool.and_eq_true,isIn_iff] at hok;omega
 obtain ⟨⟨k0,k1⟩,⟨t0,t1⟩,⟨n0,n1⟩,⟨e0,e1⟩,⟨l0,l1⟩⟩:=hb;obtain ⟨t,rfl⟩:=Int.eq_ofNat_of_zero_le (show 0<=t by omega);obtain ⟨n,rfl⟩:=Int.eq_ofNat_of_zero_le n0;obtain ⟨e,rfl⟩:=Int.eq_ofNat_of_zero_le (show 0<=e by omega);obtain ⟨iW,hiW,hzW,hsW,hbW⟩:=info_parts Tryz.infoWorkerPtr;clear hok;unfold cfg
 go_enter Tryz.func41,Tryz.ntmps41
 go_wp2_with fail;refine (isConfig_calls k t n e l _).mono ?_;rintro r w1 ⟨rfl,hF⟩;rw [Hok.out];have hC : At w1 w.heap.size [.int .i64 k,.int .i64 t,.int .i64 n,.int .i64 e,.int .i64 l] 23:=hF.at (At.new w _ _) (fun h=>h);have hcc:=hC.cell;have hF1 : Hid (Fr (fun _=>False) w w1):=((Fr.refl _ _).alloc _).trans hF;have HC:=(mkH (At w1 w.heap.size _ _) <|hC);have hsz1:=hC.lt;clear hF hC;go_wp2_with fail;refine (MNew_calls _ n e (by omega) (by omega) (by omega)).mono ?_;rintro r w2 ⟨ml,rfl,hM,hF2,hm,hnb,heb⟩;have hS : At w2 w1.heap.size [.int .i64 k,.int .i64 l,.int .i64 0,.pointer none,.slice none 0 0,.int .i64 0,.int .i64 0,.slice none 0 0,.bool false,.int .i64 0] 109:=hF2.at (At.new w1 _ _) (fun h=>h);have hC2 : At w2 w.heap.size [.int .i64 k,.int .i64 t,.int .i64 n,.int .i64 e,.int .i64 l] 23:=hF2.at (HC.out.alloc _) (fun h=>h);have hFt : Fr (fun _=>False) w w2:=(hF1.out.alloc _).trans hF2;simp only [World.size_alloc] at hm hnb heb;have hne : w.heap.size≠w1.heap.size:=by omega
 have G0 : XGrows w (w2.setCell ⟨w1.heap.size,3,none⟩ (.pointer (some ⟨ml.m,0,none⟩))) k l w1.heap.size ml (.slice none 0 0) [] (freshMem n e):=by
  refine ⟨hS.set 3 _,?_,World.ownsRow_nil _ _ _ _,by intro i b h; simp at h,by simp,by intro b h; simp at h,Fr.setNew (by omega) hFt _ _,by omega⟩;exact ⟨(MemAt.hd hM).setOther _ ((MemAt.hd hM).ne hS (by decide)) _,ownsRow_setOther (MemAt.nodes hM) (hS.ne_row (MemAt.nodes hM) (by decide)) _,ownsRow_setOther (MemAt.ents hM) (hS.ne_row (MemAt.ents hM) (by decide)) _,(MemAt.nsmall hM),(MemAt.esmall hM)⟩
 have HG0:=(mkH (XGrows _ _ _ _ _ _ _ _ _) <|G0);have HC2:=(mkH (At (w2.setCell ⟨w1.heap.size,3,none⟩ (.pointer (some ⟨ml.m,0,none⟩))) w.heap.size _ _) <|hC2.setOther _ hne _);have hcs:=hS.cell;have hzs:=hS.frozen;clear hcc hC2 hM hF2 HC G0 hFt hS hF1;go_wp2_with fail;clear hcs hzs
 go_loopw [5] (fun i wr=>∃ (j : Nat) (tv : Value) (wks : List Nat),j<=t/\wks.length = j/\i = .int .i64 j/\Hid (At wr w.heap.size [.int .i64 k,.int .i64 t,.int .i64 n,.int .i64 e,.int .i64 l] 23) /\
   Hid (XGrows w wr k l w1.heap.size ml tv wks (freshMem n e))) (fun i _=>t - (intOf i).toNat)
 case atStart=>exact ⟨0,_,[],Nat.zero_le _,rfl,rfl,HC2,HG0⟩
 case round =>
  clear HG0 HC2;obtain ⟨j,tv,wks,hj,hwl,rfl,HC,HG⟩:=hrel;have hcc:=HC.out.cell;have hcs:=HG.out.hd.cell;have hzs:=HG.out.hd.frozen;have hsz:=HG.out.fr.size;have hl1:=HG.out.hd.lt;by_cases hjt : j < t
  ·subst hwl;go_wp2_with (at_builtin; refine wpList_push _ rfl _ _ 105 rfl w.heap.size 111 iW (.pointer none) 1 8 Tryz.underlying105 hiW hzW hsW hbW rfl (by decide) _ _ _ rfl (ownsRow_alloc (ownsRow_alloc HG.out.thr _) _) (wr.heap.size + 1) [.pointer (some ⟨wr.heap.size,0,none⟩)] rfl rfl 111 (At.newAt (by simp) _ _) (by simp [Value.oneCell']) (by unfold maxLen; omega) (by omega) (by simp; omega) ?_);intro g cap w' hown hg hge;have R:=HG.out.push (b:=wr.heap.size) (v:=[.pointer (some ⟨wr.heap.size,0,none⟩)]) rfl hown hg;have hC' : At w' w.heap.size [.int .i64 k,.int .i64 t,.int .i64 n,.int .i64 e,.int .i64 l] 23:=((HC.out.alloc _).alloc _).grown hg (HC.out.ne_row (ownsRow_base HG.out.thr) (by decide));obtain ⟨hA,hG⟩:=R;have hcc:=hC'.cell;have hcs:=hA.cell;have hzs:=hA.frozen;have HG':=(mkH (XGrows _ _ _ _ _ _ _ _ _) <|hG);have HC':=(mkH (At (w'.setCell ⟨w1.heap.size,4,none⟩ (.slice (some ⟨g,0,none⟩) (wks.length + 1) cap)) w.heap.size _ _) <|hC'.setOther _ hne _);clear hA hown hg hG HG HC hC' hsz hl1;go_wp2
   go_roundw
   case rel=>exact ⟨wks.length + 1,_,_,by omega,by simp,by go_num,HC',HG'⟩
   case measure=>simp [intOf]; omega
  ·have hjt' : j = t:=by omega
   subst hjt';obtain ⟨tb,tcap,rfl,_⟩:=ownsRow_shape (ownsRow_base HG.out.thr) (by omega);have hX : XAt wr ⟨w1.heap.size,ml,tb,tcap,wks⟩ (freshX k j n e l):=by
    refine ⟨?_,?_,?_,?_,?_,?_,HG.out.apart⟩
    ·simp only [freshX,Int.toNat_natCast,freshTs_len]; rw [<- hwl]; exact HG.out.hd
    ·simp only [freshX,Int.toNat_natCast]; exact HG.out.mem
    ·simp only [freshX,Int.toNat_natCast,freshTs_len]; rw [<- hwl]; exact ownsRow_base HG.out.thr
    ·simp only [freshX,Int.toNat_natCast,freshTs_len]; exact hwl
    ·intro i b t' hb ht;simp only [freshX,Int.toNat_natCast] at ht;obtain ⟨_,rfl⟩:=freshTs_get ht;exact HG.out.wk i b hb
    ·simp only [freshX,Int.toNat_natCast,freshTs_len]; omega
   have HX:=(mkH (XAt _ _ _) <|hX);have hF:=(mkH (Fr _ _ _) <|HG.out.fr);have hnew:=(mkH (∀ b,b ∈ wks->w.heap.size<=b) <|HG.out.new);have htb:=(HG.out.thr.lt tb rfl).1;clear hX HG hcs hzs hsz hl1;go_wp2;go_ret2;refine ⟨⟨w1.heap.size,ml,tb,tcap,wks⟩,rfl,HX.out,hF.out,?_⟩;intro b hb;simp only [XLay.own] at hb;rcases hb with rfl | rfl | rfl | rfl | rfl | hb
   ·omega
   ·omega
   ·omega
   ·omega
   ·omega
   ·exact hnew.out b hb
end
section
open Go.ChangeShapes Go.WideShapes Go.ChangeAt Go.RowKit Go.Joins Go.Deep
theorem Tryz.own : ownKnob Tryz.prog.godebug = none:=by kernel_rfl
theorem Tryz.laidOut : laidOutB Tryz.prog = true:=by kernel_rfl
theorem Tryz.cellsConfig : Tryz.prog.cellsOf 23 = 5:=by kernel_rfl
theorem Tryz.cellsAct : Tryz.prog.cellsOf 29 = 7:=by kernel_rfl
theorem Tryz.cellsSpan : Tryz.prog.cellsOf 81 = 2:=by kernel_rfl
theorem Tryz.cellsSpans : Tryz.prog.cellsOf 27 = 1:=by kernel_rfl
theorem Tryz.cellsInt : Tryz.prog.cellsOf 3 = 1:=by kernel_rfl
theorem list5 {α : Type} {l : List α} (h : l.length = 5) : ∃ a b c d e,l = [a,b,c,d,e]:=by
 match l,h with
 | [a,b,c,d,e],_=>exact ⟨a,b,c,d,e,rfl⟩
theorem array5 {α : Type} {l : Array α} (h : l.size = 5) : ∃ a b c d e,l = #[a,b,c,d,e]:=by
 obtain ⟨l⟩:=l;obtain ⟨a,b,c,d,e,rfl⟩:=list5 (l:=l) h;exact ⟨a,b,c,d,e,rfl⟩
section
variable {H : Type} {enc : TypeId × Value->H} {P : Program} {w : World} {base : Nat} {spare : Nat->Bool} {held : Bool}
theorem trod_struct5 {t : TypeId} {f0 f1 f2 f3 f4 : Field} {fuel : Nat} {cs : List Value} {x : DataW H × List MemPlace} (ht : P.underlying t = some (.struct #[f0,f1,f2,f3,f4])) (h : DataW.trod enc P w base spare held fuel t cs = some x) :
  ∃ y0 y1 y2 y3 y4 n,DataW.trod enc P w base spare held n f0.type ((cs.drop f0.offset).take (P.cellsOf f0.type)) = some y0 /\
   DataW.trod enc P w base spare held n f1.type ((cs.drop f1.offset).take (P.cellsOf f1.type)) = some y1/\DataW.trod enc P w base spare held n f2.type ((cs.drop f2.offset).take (P.cellsOf f2.type)) = some y2 /\
   DataW.trod enc P w base spare held n f3.type ((cs.drop f3.offset).take (P.cellsOf f3.type)) = some y3/\DataW.trod enc P w base spare held n f4.type ((cs.drop f4.offset).take (P.cellsOf f4.type)) = some y4:=by
 obtain ⟨xs,n,_,rfl,hl,hlen,hf⟩:=DataW.trod_struct ht h;obtain ⟨y0,y1,y2,y3,y4,rfl⟩:=list5 (l:=xs) hlen;exact ⟨y0,y1,y2,y3,y4,n,by simpa using hf 0 f0 rfl,by simpa using hf 1 f1 rfl,by simpa using hf 2 f2 rfl,by simpa using hf 3 f3 rfl,by simpa using hf 4 f4 rfl⟩
def rawI (c : Int) : Prop:=-9223372036854775808<=c/\c<=9223372036854775807
theorem ints5 {r : Reach} {b0 : Nat} {t ti : TypeId} {f0 f1 f2 f3 f4 : Field} {v : Value} {d : DataW H} {p : List MemPlace} (hs : P.underlying t = some (.struct #[f0,f1,f2,f3,f4])) (hone : oneCellFields P #[f0,f1,f2,f3,f4] = true) (hC : P.cellsOf t = 5)
  (hi : P.underlying ti = some (.int .i64)) (h0 : f0.type = ti) (h1 : f1.type = ti) (h2 : f2.type = ti) (h3 : f3.type = ti) (h4 : f4.type = ti)
  (hv : Value.okWide P w r b0 t v) (h : DataW.Trod enc P w base spare held t v d p) : ∃ k t n e l : Int,v = cfg k t n e l/\rawI t/\rawI n/\rawI e/\rawI l:=by
 obtain ⟨cs,rfl,hsz⟩:=okWide_struct hs hv;obtain ⟨c0,c1,c2,c3,c4,rfl⟩:=array5 (hsz.trans hC);obtain ⟨fuel,hf⟩:=h;obtain ⟨y0,y1,y2,y3,y4,n,g0,g1,g2,g3,g4⟩:=trod_struct5 hs hf;obtain ⟨o0,k0⟩:=hone_of hone 0 f0 rfl;obtain ⟨o1,_⟩:=hone_of hone 1 f1 rfl;obtain ⟨o2,_⟩:=hone_of hone 2 f2 rfl;obtain ⟨o3,_⟩:=hone_of hone 3 f3 rfl;obtain ⟨o4,_⟩:=hone_of hone 4 f4 rfl;rw [h0] at k0;simp only [o0,o1,o2,o3,o4,h0,h1,h2,h3,h4,k0] at g0 g1 g2 g3 g4;obtain ⟨a0,e0,_,_⟩:=DataW.trod_int hi g0;obtain ⟨a1,e1,_,wf1⟩:=DataW.trod_int hi g1;obtain ⟨a2,e2,_,wf2⟩:=DataW.trod_int hi g2;obtain ⟨a3,e3,_,wf3⟩:=DataW.trod_int hi g3;obtain ⟨a4,e4,_,wf4⟩:=DataW.trod_int hi g4;have b1:=Go.bounds_i64 wf1;have b2:=Go.bounds_i64 wf2;have b3:=Go.bounds_i64 wf3;have b4:=Go.bounds_i64 wf4;simp [Value.cells] at e0 e1 e2 e3 e4;subst e0 e1 e2 e3 e4;exact ⟨a0,a1,a2,a3,a4,rfl,b1,b2,b3,b4⟩
end
theorem cfg_open {H : Type} {enc : TypeId × Value->H} {W : World} {r : Reach} {b0 base : Nat} {spare : Nat->Bool} {held : Bool} {v : Value} {d : DataW H} {p : List MemPlace}
  (hv : Value.okWide Tryz.prog W r b0 23 v) (h : DataW.Trod enc Tryz.prog W base spare held 23 v d p) : ∃ k t n e l : Int,v = cfg k t n e l/\rawI t/\rawI n/\rawI e/\rawI l :=
 ints5 Tryz.underlying23 (by kernel_rfl) Tryz.cellsConfig Tryz.underlying3 rfl rfl rfl rfl rfl hv h
theorem bulk_one {H : Type} (d : DataW H) : 1<=Rows.uptoBulk d:=by
 cases d with
 | lit l=>cases l <;> simp [Rows.uptoBulk]
 | nil=>simp [Rows.uptoBulk]
 | ptr d=>simp [Rows.uptoBulk]
 | slice elems spare=>simp [Rows.uptoBulk]
 | agg parts=>simp [Rows.uptoBulk]
 | iface t d=>simp [Rows.uptoBulk]
 | map entries=>simp [Rows.uptoBulk]
 | held h=>simp [Rows.uptoBulk]
theorem bulk_part {H : Type} {d : DataW H} : ∀ {l : List (DataW H)},d ∈ l->Rows.uptoBulk d<=Rows.uptoBulkAll l
 | [],h=>by cases h
 | x :: r,h=>by
  simp only [Rows.uptoBulkAll];rcases List.mem_cons.1 h with rfl | e
  ·omega
  ·have:=bulk_part e; omega
theorem bulk_len {H : Type} : ∀ (l : List (DataW H)),l.length<=Rows.uptoBulkAll l
 | []=>by simp
 | x :: r=>by have h1:=bulk_one x; have h2:=bulk_len r; simp only [Rows.uptoBulkAll,List.length_cons]; omega
theorem acts_open {H : Type} {enc : TypeId × Value->H} {W : World} {r : Reach} {b0 base : Nat} {spare : Nat->Bool} {held : Bool} {v : Value} {d : DataW H} {p : List MemPlace}
  (hv : Value.okWide Tryz.prog W r b0 24 v) (h : DataW.Trod enc Tryz.prog W base spare held 24 v d p) :
  ∃ sa n c,∃ acts : List ActD,v = .slice sa n c/\n<=Rows.uptoBulk d/\acts.length = n/\∀ i a,acts[i]? = some a->ActIn W sa i a/\a.sn<=Rows.uptoBulk d:=by
 obtain ⟨fuel,hf⟩:=h;obtain ⟨sa0,n0,c0,rfl⟩:=okWide_slice Tryz.underlying24 hv;obtain ⟨sa,n,c,acts,e,h1,h2,h3⟩:=script_open (B:=Rows.uptoBulk) Tryz.underlying24 Tryz.underlying29 Tryz.cellsAct rfl rfl rfl rfl rfl rfl rfl rfl rfl rfl rfl rfl rfl rfl Tryz.cellsInt Tryz.underlying3 Tryz.cellsSpans
  Tryz.underlying27 Tryz.underlying81 Tryz.cellsSpan rfl rfl rfl rfl
  (fun elems sp=>by have:=bulk_len elems; simp only [Rows.uptoBulk]; omega) (fun elems sp d hd=>by have:=bulk_part hd; simp only [Rows.uptoBulk]; omega) (fun parts d hd=>by have:=bulk_part hd; simp only [Rows.uptoBulk]; omega) hf
 simp [Value.cells] at e;obtain ⟨rfl,rfl,rfl⟩:=e;exact ⟨_,_,_,acts,rfl,h1,h2,h3⟩
end
section
def SmallAns (a : BAns) : Prop:=a.spans.length<=16/\∀ l ∈ a.spans,l.length<=64
theorem SmallAns.zero {a : BAns} (h : a.spans = []) : SmallAns a:=⟨by rw [h]; simp,by rw [h]; simp⟩
structure FitK (N : Nat) (k : PWork) : Prop where
 kd : k.kind = 1\/k.kind = 2\/k.kind = 3\/k.kind = 4
 nx : 1<=k.next/\k.next<=13
 rd : (k.kind = 3\/k.kind = 4)->k.next<=4\/k.next = 13
 made : k.made.length<=2/\(k.next<=7->k.made = [])
 locks : k.locks<=2
 links : k.kind = 4->k.links.length<=N + 1
 spans : k.kind = 4->k.spans.length<=16
 noted : k.noted.length<=N
 ans : SmallAns k.ans
abbrev FitT (N : Nat) (t : PThread) : Prop:=FitK N t.work
structure Fit (N : Nat) (P : PSt) : Prop where
 kind : P.kind = 0\/P.kind = 1
 clk : 0<=P.clock/\P.clock<=P.limit
 lim : P.limit<=1099511627776
 thr : 1<=P.ts.length/\P.ts.length<=8
 swp : P.sweep.made<=P.ts.length + 2/\P.sweep.retired.length<=66
 th : ∀ (i : Nat) t,P.ts[i]? = some t->(t.busy = true->FitT N t)/\SmallAns t.last
section
variable {N : Nat} {P : PSt} {i : Nat} {t : PThread}
theorem FitK.mono {N' : Nat} {k : PWork} (h : FitK N k) (hN : N<=N') : FitK N' k:=⟨h.kd,h.nx,h.rd,h.made,h.locks,fun h4=>Nat.le_trans (h.links h4) (Nat.succ_le_succ hN),h.spans,Nat.le_trans h.noted hN,h.ans⟩
theorem setW_eq (P : PSt) {i : Nat} {t : PThread} (ht : P.ts[i]? = some t) (k : PWork) : P.ts.modify i (fun t=>{ t with work:=k }) = P.ts.set i { t with work:=k }:=by
 apply List.ext_getElem?;intro j;rw [List.getElem?_modify,List.getElem?_set];by_cases e : i = j
 ·subst e;obtain ⟨h1,h2⟩:=List.getElem?_eq_some_iff.1 ht;simp [h1,h2]
 ·simp [e]
structure Turned (N : Nat) (P : PSt) (i : Nat) (t : PThread) (R : PSt × Int) : Prop where
 to : ∃ M c t',R.1 = { P with mem:=M,clock:=c,ts:=P.ts.set i t' }/\(c = P.clock\/(c = P.clock + 1/\P.clock < P.limit))/\(t'.busy = true->FitT (N + 1) t')/\SmallAns t'.last/\t'.busy = (if R.2 = 3 then false else true)/\(R.2≠3->t'.hasEnded = t.hasEnded/\t'.last = t.last)
 how : 1<=R.2/\R.2<=3
theorem answerOf_small (spans noted : List (Int × Int)) (st : Int) (h : spans.length<=16) : SmallAns (answerOf spans noted st):=by
 unfold answerOf;split
 ·exact SmallAns.zero rfl
 ·next hh =>
  refine ⟨by simp [spanLists,h],?_⟩;have key : ∀ (ll : List (List (Int × Int))) l,l ∈ ll->l.length<=lensOf ll:=by
   intro ll
   induction ll with
   | nil=>intro l hl; simp at hl
   | cons a r ih =>
    intro l hl;rw [lensOf];rcases List.mem_cons.1 hl with rfl | hl
    ·omega
    ·have:=ih l hl; omega
  intro l hl
  have:=key _ l hl
  simp only at this;omega
theorem Turned.work (ht : P.ts[i]? = some t) (hb : t.busy = true) (hl : SmallAns t.last) {M : PMem} {c : Int} {k : PWork} {n : Int} (hn : n = 1\/n = 2) (hc : c = P.clock\/(c = P.clock + 1/\P.clock < P.limit)) (hk : FitT (N + 1) { t with work:=k }) :
  Turned N P i t (({ P with mem:=M,clock:=c } : PSt).setW i k,n):=by
 refine ⟨⟨M,c,{ t with work:=k },?_,hc,fun _=>hk,hl,?_,fun _=>⟨rfl,rfl⟩⟩,by show 1<=n/\n<=3; omega⟩
 ·unfold PSt.setW;simp only;rw [setW_eq P ht]
 ·rw [if_neg (show ¬ n = 3 by omega)]; exact hb
theorem Turned.same (ht : P.ts[i]? = some t) (hb : t.busy = true) (hl : SmallAns t.last) (hk : FitT N t) {n : Int} (hn : n = 1\/n = 2) : Turned N P i t (P,n):=by
 refine ⟨⟨P.mem,P.clock,t,?_,.inl rfl,fun _=>hk.mono (Nat.le_succ N),hl,?_,fun _=>⟨rfl,rfl⟩⟩,by show 1<=n/\n<=3; omega⟩
 ·have : P.ts.set i t = P.ts:=by
   apply List.ext_getElem?;intro j;rw [List.getElem?_set];split
   ·next e=>subst e; split <;> simp_all
   ·rfl
  simp only;rw [this]
 ·rw [if_neg (show ¬ n = 3 by omega)]; exact hb
theorem Fit.turn (h : Fit N P) (ht : P.ts[i]? = some t) (hb : t.busy = true) : Turned N P i t (P.step i t):=by
 obtain ⟨hT,hl⟩:=h.th i t ht;have hT:=hT hb;have hk0:=h.kind;have hlks : ∀ (n lo hi : Int),(P.linksWithin n lo hi).length<=2:=by
  intro n lo hi;unfold PSt.linksWithin;have h1 : ∀ (b : Bool) (x : Int × Bool),(if b = true then [x] else ([] : List (Int × Bool))).length<=1:=by intro b x; split <;> simp
  split
  ·split <;> simp
  ·rw [List.length_append];have a1:=h1 ((P.mem.node n).links == 2 && decide (lo < (P.mem.node n).key)) (n,false);have a2:=h1 ((P.mem.node n).links == 2 && decide ((P.mem.node n).key<=hi)) (n,true);omega
 have hnx:=hT.nx;have m1:=hT.made;have fit : ∀ k : PWork,k.kind = t.work.kind->(1<=k.next/\k.next<=13)->((k.kind = 3\/k.kind = 4)->k.next<=4\/k.next = 13)->(k.made.length<=2/\(k.next<=7->k.made = []))->k.locks<=2->(k.kind = 4->k.links.length<=N + 1 + 1)->k.spans = t.work.spans->k.noted.length<=N + 1->SmallAns k.ans->FitK (N + 1) k:=by
  intro k e1 e2 e3 e4 e5 e6 e7 e8 e9;exact ⟨by show k.kind = 1\/_; rw [e1]; exact hT.kd,e2,e3,e4,e5,e6,fun h4=>by show k.spans.length<=16; rw [e7]; exact hT.spans (e1 ▸ h4),e8,e9⟩
 have hN : t.work.noted.length<=N + 1:=Nat.le_trans hT.noted (Nat.le_succ N);have sT : ∀ (t' : PThread) n,t'.busy = true->t'.last = t.last->t'.hasEnded = t.hasEnded->FitT (N + 1) t'->(n = 1\/n = 2)->Turned N P i t (P.setT i t',n):=by
  intro t' n hb' hl' he' hf hn;refine ⟨⟨P.mem,P.clock,t',rfl,.inl rfl,fun _=>hf,hl' ▸ hl,?_,fun _=>⟨he',hl'⟩⟩,by show 1<=n/\n<=3; omega⟩;rw [if_neg (show ¬ n = 3 by omega)]; exact hb'
 have hkd:=hT.kd;have upd : ¬ (t.work.kind = 3\/t.work.kind = 4)->∀ k : PWork,k.kind = t.work.kind->¬ (k.kind = 3\/k.kind = 4):=fun h1 k e=>e ▸ h1
 unfold PSt.step;split
 ·next hn=>exact sT _ 1 hb rfl rfl (fit _ rfl (by constructor <;> (simp only; omega)) (fun hr=>.inl (by simp only; omega)) ⟨m1.1,fun _=>m1.2 (by omega)⟩ hT.locks (fun h4=>Nat.le_succ_of_le (hT.links h4)) rfl hN hT.ans) (.inl rfl)
 ·next hn=>exact sT _ 1 hb rfl rfl (fit _ rfl (by constructor <;> (simp only; omega)) (fun hr=>.inl (by simp only; omega)) ⟨m1.1,fun _=>m1.2 (by omega)⟩ hT.locks (fun h4=>Nat.le_succ_of_le (hT.links h4)) rfl hN hT.ans) (.inl rfl)
 ·next hn=>exact sT _ 1 hb rfl rfl (fit t.work.home rfl (by simp [PWork.home]) (fun hr=>.inl (by simp [PWork.home])) ⟨m1.1,fun _=>m1.2 (by omega)⟩ hT.locks (fun h4=>Nat.le_succ_of_le (hT.links h4)) rfl hN hT.ans) (.inl rfl)
 ·next hn =>
  refine ⟨⟨P.mem,P.clock,t.leave,rfl,.inl rfl,fun hh=>?_,hT.ans,?_,fun hh=>absurd rfl hh⟩,by show (1 : Int)<=3/\(3 : Int)<=3; decide⟩
  ·simp [PThread.leave] at hh
  ·simp [PThread.leave]
 ·next n1 n2 n3 n13 =>
  have n1' : t.work.next≠1:=n1
  have n2' : t.work.next≠2:=n2
  have n3' : t.work.next≠3:=n3
  have n13' : t.work.next≠13:=n13
  split
  ·next hr =>
   -- a read
   have hn4 : t.work.next = 4:=by have:=hT.rd hr; omega
   unfold PSt.read;simp only;split
   ·exact Turned.same ht hb hl hT (.inr rfl)
   ·have goal : ∀ k : PWork,FitT (N + 1) { t with work:=k }->Turned N P i t (P.setW i k,1):=fun k hk=>Turned.work (M:=P.mem) (c:=P.clock) ht hb hl (.inl rfl) (.inl rfl) hk
    by_cases h3 : t.work.kind = 3
    ·rw [if_pos h3];apply goal;unfold PSt.lookUp;split
     ·exact fit _ rfl (by simp only; omega) (fun _=>.inl (by simp only; omega)) ⟨m1.1,fun _=>m1.2 (by omega)⟩ hT.locks (fun h4=>by have : t.work.kind = 4:=h4; omega) rfl hN hT.ans
     ·refine fit _ rfl (by simp [PWork.conclude]) (fun _=>.inr rfl) ⟨m1.1,fun hh=>by simp [PWork.conclude] at hh⟩ hT.locks (fun h4=>absurd h4 (by simp [PWork.conclude,h3])) rfl hN ?_;simp only [PWork.conclude];split <;> exact SmallAns.zero rfl
    ·have h4 : t.work.kind = 4:=by omega
     rw [if_neg h3];apply goal;have hlk:=hT.links h4;have hlw:=hlks (P.mem.ledTo (P.linkNext t.work).1 (P.linkNext t.work).2 t.work.time) (leastLo t.work.spans) (greatestHi t.work.spans);have hll : (P.linksWithin (P.mem.ledTo (P.linkNext t.work).1 (P.linkNext t.work).2 t.work.time) (leastLo t.work.spans) (greatestHi t.work.spans) ++ List.drop 1 t.work.links).length<=N + 1 + 1:=by
      rw [List.length_append,List.length_drop]; omega
     have hsp:=hT.spans h4;unfold PSt.scan;simp only;have hno : ∀ (b : Bool) (q : Int × Int),(if b = true then t.work.noted ++ [q] else t.work.noted).length<=N + 1:=by
      intro b q
      have:=hT.noted
      split
      ·rw [List.length_append]; simp; omega
      ·omega
     split
     ·exact fit _ rfl (by simp [PWork.conclude]) (fun _=>.inr rfl) ⟨m1.1,fun hh=>by simp [PWork.conclude] at hh⟩ hT.locks (fun _=>by simpa [PWork.conclude] using hll) rfl (hno _ _) (answerOf_small _ _ _ hsp)
     ·next hne =>
      exact fit _ rfl (by simp [hn4]) (fun _=>.inl (by simp [hn4])) ⟨m1.1,fun _=>m1.2 (by omega)⟩ hT.locks (fun _=>hll) rfl (hno _ _) hT.ans
  ·next hr =>
   -- an update
   have hnr : ∀ k : PWork,k.kind = t.work.kind->¬ (k.kind = 3\/k.kind = 4):=upd hr;have n4 : ∀ k : PWork,k.kind = t.work.kind->¬ k.kind = 4:=fun k e h4=>hnr k e (.inr h4)
   have go : ∀ (M : PMem) (c : Int) (k : PWork),(c = P.clock\/(c = P.clock + 1/\P.clock < P.limit))->k.kind = t.work.kind->(1<=k.next/\k.next<=13)->(k.made.length<=2/\(k.next<=7->k.made = []))->k.locks<=2->k.spans = t.work.spans->k.noted = t.work.noted->SmallAns k.ans->Turned N P i t (({ P with mem:=M,clock:=c } : PSt).setW i k,1):=by
    intro M c k hc e1 e2 e3 e4 e5 e6 e7;exact Turned.work ht hb hl (.inl rfl) hc (fit k e1 e2 (fun hh=>absurd hh (hnr k e1)) e3 e4 (fun hh=>absurd hh (n4 k e1)) e5 (e6 ▸ hN) e7)
   unfold PSt.update;split
   ·next hn =>
    refine go P.mem P.clock _ (.inl rfl) ?_ ?_ ?_ ?_ ?_ ?_ ?_ <;> unfold PSt.walk <;> split
    all_goals first | rfl | exact hT.ans | exact hT.locks | (simp only; omega) | exact ⟨m1.1,fun _=>m1.2 (by omega)⟩
   ·next hn =>
    unfold PSt.lock;split
    ·next hlt =>
     have hwl : (P.wanted t.work).length<=2:=by
      unfold PSt.wanted;split
      ·split <;> simp
      ·simp
     split
     ·refine go _ P.clock _ (.inl rfl) rfl ?_ ⟨m1.1,fun _=>m1.2 (by omega)⟩ (by simp only; omega) rfl rfl hT.ans;simp only;split <;> omega
     ·exact Turned.same ht hb hl hT (.inr rfl)
    ·exact go P.mem P.clock _ (.inl rfl) rfl (by simp) ⟨m1.1,fun _=>m1.2 (by omega)⟩ hT.locks rfl rfl hT.ans
   ·next hn =>
    unfold PSt.check;split
    ·exact go _ P.clock _ (.inl rfl) rfl (by simp [PWork.home]) ⟨m1.1,fun _=>m1.2 (by omega)⟩ (by simp [PWork.home]) rfl rfl hT.ans
    ·split
     ·exact go P.mem P.clock _ (.inl rfl) rfl (by simp [PWork.settle]) ⟨m1.1,fun hh=>by simp [PWork.settle] at hh⟩ hT.locks rfl rfl (SmallAns.zero rfl)
     ·exact go P.mem P.clock _ (.inl rfl) rfl (by simp) ⟨m1.1,fun _=>m1.2 (by omega)⟩ hT.locks rfl rfl hT.ans
   ·next hn =>
    have hm0:=m1.2 (by omega);unfold PSt.prepare;split
    ·exact go P.mem P.clock _ (.inl rfl) rfl (by simp [PWork.settle]) ⟨m1.1,fun hh=>by simp [PWork.settle] at hh⟩ hT.locks rfl rfl (SmallAns.zero rfl)
    ·refine go _ P.clock _ (.inl rfl) ?_ (by simp) ?_ ?_ ?_ ?_ ?_ <;> by_cases h1 : t.work.kind = 1 <;> simp only [h1,if_true,if_false] <;> rcases hk0 with hk0 | hk0 <;> first | (unfold PSt.prepareInsert; simp only [hk0,if_true,hm0,show ¬ ((1 : Int) = 0) by decide,if_false]) | (unfold PSt.prepareRemove; simp only [hk0,if_true,hm0,show ¬ ((1 : Int) = 0) by decide,if_false])
     all_goals first | rfl | exact hT.ans | exact hT.locks | exact h1 | (constructor <;> simp)
   ·next hn =>
    unfold PSt.take;split
    ·exact go _ P.clock _ (.inl rfl) rfl (by simp [PWork.settle]) ⟨m1.1,fun hh=>by simp [PWork.settle] at hh⟩ hT.locks rfl rfl (SmallAns.zero rfl)
    ·next hlim =>
     have hc : P.clock + 1 = P.clock\/(P.clock + 1 = P.clock + 1/\P.clock < P.limit):=.inr ⟨rfl,by omega⟩;simp only;split
     ·exact go P.mem (P.clock + 1) _ hc rfl (by simp) ⟨m1.1,fun hh=>by simp at hh⟩ hT.locks rfl rfl (SmallAns.zero rfl)
     ·exact go _ (P.clock + 1) _ hc rfl (by simp) ⟨m1.1,fun hh=>by simp at hh⟩ hT.locks rfl rfl (SmallAns.zero rfl)
   ·exact go _ P.clock _ (.inl rfl) rfl (by simp) ⟨m1.1,fun hh=>by simp at hh⟩ hT.locks rfl rfl hT.ans
   ·exact go _ P.clock _ (.inl rfl) rfl (by simp) ⟨m1.1,fun hh=>by simp at hh⟩ hT.locks rfl rfl hT.ans
   ·exact go _ P.clock _ (.inl rfl) rfl (by simp) ⟨m1.1,fun hh=>by simp at hh⟩ hT.locks rfl rfl hT.ans
   ·exact go _ P.clock _ (.inl rfl) rfl (by simp) ⟨m1.1,fun hh=>by simp at hh⟩ (by simp) rfl rfl hT.ans
   ·exact Turned.same ht hb hl hT (.inl rfl)
theorem Fit.of (h : Fit N P) (hi : i < P.ts.length) {M : PMem} {c : Int} {t' : PThread} (hc : c = P.clock\/(c = P.clock + 1/\P.clock < P.limit)) (h1 : t'.busy = true->FitT (N + 1) t') (h2 : SmallAns t'.last) : Fit (N + 1) { P with mem:=M,clock:=c,ts:=P.ts.set i t' }:=by
 refine ⟨h.kind,?_,h.lim,by simpa using h.thr,by simpa using h.swp,?_⟩
 ·have:=h.clk
  show 0<=c/\c<=P.limit;omega
 ·intro j u hu;simp only [List.getElem?_set] at hu;by_cases e : i = j
  ·rw [if_pos e,if_pos hi] at hu;obtain rfl:=Option.some.inj hu;exact ⟨h1,h2⟩
  ·rw [if_neg e] at hu;exact ⟨fun hb=>((h.th j u hu).1 hb).mono (Nat.le_succ N),(h.th j u hu).2⟩
theorem Fit.step (h : Fit N P) (ht : P.ts[i]? = some t) (hb : t.busy = true) : Fit (N + 1) (P.step i t).1:=by
 obtain ⟨M,c,t',e,hc,h1,h2,_⟩:=(h.turn ht hb).to;rw [e];exact h.of (List.getElem?_eq_some_iff.1 ht).1 hc h1 h2
theorem Fit.begin (h : Fit N P) (i kind key value : Int) (spans : List (Int × Int)) : Fit N (P.begin i kind key value spans).1:=by
 unfold PSt.begin;split
 ·next hI =>
  have hb:=isIn_iff.1 hI;split
  ·exact h
  ·split
   ·next hk =>
    obtain ⟨j,rfl⟩:=Int.eq_ofNat_of_zero_le hb.1;have hj : j < P.ts.length:=by omega
    have ht : P.ts[j]? = some (P.th j):=by simp [PSt.th,List.getElem?_eq_getElem hj]
    refine ⟨h.kind,h.clk,h.lim,by simpa [PSt.setT] using h.thr,by simpa [PSt.setT] using h.swp,?_⟩;intro q u hu;simp only [PSt.setT,Int.toNat_natCast,List.getElem?_set] at hu;by_cases e : j = q
    ·rw [if_pos e,if_pos hj] at hu;obtain rfl:=Option.some.inj hu;refine ⟨fun _=>?_,(h.th j _ ht).2⟩;unfold checkOp at hk;have hkd : kind = 1\/kind = 2\/kind = 3\/kind = 4:=by
      by_cases h1 : kind = 1\/kind = 2\/kind = 3
      ·omega
      ·rw [if_neg h1] at hk;by_cases h4 : kind = 4
       ·omega
       ·rw [if_neg h4] at hk; cases hk
     have hsp : kind = 4->spans.length<=16:=by
      intro h4;rw [if_neg (by omega),if_pos h4] at hk;split at hk
      ·next hh =>
       simp only [Bool.and_eq_true] at hh
       have:=isIn_iff.1 hh.1
       omega
      ·cases hk
     have hnw : (newWork kind key value spans).kind = kind/\(newWork kind key value spans).next = 1/\(newWork kind key value spans).made = []/\(newWork kind key value spans).locks = 0/\(kind = 4->(newWork kind key value spans).links.length = 1/\(newWork kind key value spans).spans = spans)/\(newWork kind key value spans).noted = []/\(newWork kind key value spans).ans.spans = []:=by
      unfold newWork;simp only;rcases hkd with rfl | rfl | rfl | rfl <;> simp [PWork.zero]
     obtain ⟨a1,a2,a3,a4,a5,a6,a7⟩:=hnw;refine ⟨by show (newWork kind key value spans).kind = 1\/_; rw [a1]; exact hkd,by show 1<=(newWork kind key value spans).next/\_; rw [a2]; decide,fun _=>.inl (by show (newWork kind key value spans).next<=4; rw [a2]; decide),⟨by show (newWork kind key value spans).made.length<=2; rw [a3]; simp,fun _=>a3⟩,by show (newWork kind key value spans).locks<=2; rw [a4]; decide,fun h4=>by have h:=(a5 (a1 ▸ h4)).1; show (newWork kind key value spans).links.length<=N + 1; omega,fun h4=>by show (newWork kind key value spans).spans.length<=16; rw [(a5 (a1 ▸ h4)).2]; exact hsp (a1 ▸ h4),by show (newWork kind key value spans).noted.length<=N; rw [a6]; simp,SmallAns.zero a7⟩
    ·rw [if_neg e] at hu;exact h.th q u hu
   ·exact h
 ·exact h
theorem retired_le : ∀ (l : List PNode) (i : Nat),(retiredFrom l i).length<=l.length
 | [],_=>Nat.le_refl _
 | x :: r,i=>by
  rw [retiredFrom]
  have:=retired_le r (i + 1)
  split <;> simp <;> omega
theorem Fit.sweep (h : Fit N P) (hn : P.mem.ns.length<=66) : Fit N P.doSweep.1/\1<=P.doSweep.2/\P.doSweep.2<=3:=by
 have hs:=h.swp;unfold PSt.doSweep;simp only;split
 ·refine ⟨⟨h.kind,h.clk,h.lim,h.thr,⟨?_,?_⟩,h.th⟩,by simp,by simp⟩
  ·show 1<=_; omega
  ·exact Nat.le_trans (retired_le _ _) hn
 ·split
  ·split
   ·exact ⟨h,by simp,by simp⟩
   ·refine ⟨⟨h.kind,h.clk,h.lim,h.thr,⟨?_,?_⟩,h.th⟩,by simp,by simp⟩
    ·show P.sweep.made + 1<=_; simp only; omega
    ·show (PSweep.lookAt _ _).retired.length<=66;unfold PSweep.lookAt;split <;> exact hs.2
  ·split
   ·refine ⟨⟨h.kind,h.clk,h.lim,h.thr,⟨?_,hs.2⟩,h.th⟩,by simp,by simp⟩;show P.sweep.made + 1<=P.ts.length + 2; omega
   ·exact ⟨⟨h.kind,h.clk,h.lim,h.thr,⟨by show 0<=_; omega,by simp [PSweep.zero]⟩,h.th⟩,by simp,by simp⟩
end
end
end Go.Proofs.YtfccelbmacjifabGreat
