import Derived.Test.YtfccelbmacjifabGreatP0
import Derived.Test.YtfccelbmacjifabGreatP19
set_option linter.unusedSimpArgs false
set_option maxRecDepth 100000
set_option maxHeartbeats 4000000
namespace Go.Proofs.YtfccelbmacjifabGreat
section
open Go.RowKit
theorem isWithin_calls (n a b : Int) (w : World) :
  Calls Tryz.prog 69 #[.int .i64 n,.int .i64 a,.int .i64 b] w fun e w'=>e = .returned (.bool (isIn n a b))/\w' = w:=by
 by_cases h1 : a<=n
 ·by_cases h2 : n<=b
  ·go_enter Tryz.func69,Tryz.ntmps69
   go_wp2;go_ret;exact ⟨ret_bool (isIn_true (by omega)).symm,rfl⟩
  ·go_enter Tryz.func69,Tryz.ntmps69
   go_wp2;go_ret;exact ⟨ret_bool (isIn_false (by omega)).symm,rfl⟩
 ·go_enter Tryz.func69,Tryz.ntmps69
  go_wp2;go_ret;exact ⟨ret_bool (isIn_false (by omega)).symm,rfl⟩
def cfg (k t n e l : Int) : Value:=.agg #[.int .i64 k,.int .i64 t,.int .i64 n,.int .i64 e,.int .i64 l]
def okCfg (k t n e l : Int) : Bool:=isIn k 0 1 && isIn t 1 8 && isIn n 0 64 && isIn e 1 256 && isIn l 0 1099511627776
theorem isConfig_calls (k t n e l : Int) (w : World) :
  Calls Tryz.prog 58 #[cfg k t n e l] w fun r w'=>r = .returned (.bool (okCfg k t n e l))/\Fr (fun _=>False) w w':=by
 unfold cfg;by_cases hk : k = 0\/k = 1
 ·have h0 : isIn k 0 1 = true:=isIn_true (by omega);cases ht : isIn t 1 8
  ·have hv : Hid (okCfg k t n e l = false):=by show _ = _; simp [okCfg,ht]
   rcases hk with rfl | rfl
   all_goals
    go_enter Tryz.func58,Tryz.ntmps58
    go_wp2_with (go_at_call 69; refine (isWithin_calls _ _ _ _).mono ?_; rintro e w' ⟨rfl,rfl⟩);go_ret;exact ⟨ret_bool hv.out.symm,(Fr.refl _ _).alloc _⟩
  ·cases hn : isIn n 0 64
   ·have hv : Hid (okCfg k t n e l = false):=by show _ = _; simp [okCfg,hn]
    rcases hk with rfl | rfl
    all_goals
     go_enter Tryz.func58,Tryz.ntmps58
     go_wp2_with (go_at_call 69; refine (isWithin_calls _ _ _ _).mono ?_; rintro e w' ⟨rfl,rfl⟩);go_ret;exact ⟨ret_bool hv.out.symm,(Fr.refl _ _).alloc _⟩
   ·cases he : isIn e 1 256
    ·have hv : Hid (okCfg k t n e l = false):=by show _ = _; simp [okCfg,he]
     rcases hk with rfl | rfl
     all_goals
      go_enter Tryz.func58,Tryz.ntmps58
      go_wp2_with (go_at_call 69; refine (isWithin_calls _ _ _ _).mono ?_; rintro e w' ⟨rfl,rfl⟩);go_ret;exact ⟨ret_bool hv.out.symm,(Fr.refl _ _).alloc _⟩
    ·have hv : Hid (okCfg k t n e l = isIn l 0 1099511627776):=by show _ = _; simp [okCfg,h0,ht,hn,he]
     rcases hk with rfl | rfl
     all_goals
      go_enter Tryz.func58,Tryz.ntmps58
      go_wp2_with (go_at_call 69; refine (isWithin_calls _ _ _ _).mono ?_; rintro e w' ⟨rfl,rfl⟩);go_ret;exact ⟨ret_bool hv.out.symm,(Fr.refl _ _).alloc _⟩
 ·have h0 : isIn k 0 1 = false:=isIn_false (by omega);have hv : Hid (okCfg k t n e l = false):=by show _ = _; simp [okCfg,h0]
  have h1 : (k != 0) = true:=by rw [bne_iff_ne]; omega
  have h2 : (k != 1) = true:=by rw [bne_iff_ne]; omega
  go_enter Tryz.func58,Tryz.ntmps58
  go_wp2_with (go_at_call 69; refine (isWithin_calls _ _ _ _).mono ?_; rintro e w' ⟨rfl,rfl⟩);go_ret;exact ⟨ret_bool hv.out.symm,(Fr.refl _ _).alloc _⟩
theorem Tryz.infoWorkerPtr : (Tryz.prog.info? 111).map (fun i=>(i.zero,i.size,i.bytes)) = some (some (.pointer none),1,8):=by kernel_rfl
def freshTs (k : Nat) : List VWorker:=(List.range k).map fun (i : Nat)=>VWorker.new i
def freshX (k t n e l : Int) : XSt :=
 { kind:=k,limit:=l,clock:=0,mem:=freshMem n.toNat e.toNat,ts:=freshTs t.toNat,sweep:=VSweep.zero }
theorem freshTs_get {k i : Nat} {t : VWorker} (h : (freshTs k)[i]? = some t) : i < k/\t = VWorker.new i:=by
 have hi : i < k:=by have:=(List.getElem?_eq_some_iff.1 h).1; simpa [freshTs] using this
 refine ⟨hi,?_⟩;simp [freshTs,hi] at h;exact h.symm
theorem freshTs_len (k : Nat) : (freshTs k).length = k:=by simp [freshTs]
structure XGrows (w wr : World) (kd l : Int) (s : Nat) (ml : MLay) (tv : Value) (wks : List Nat) (M : PMem) : Prop where
 hd : At wr s [.int .i64 kd,.int .i64 l,.int .i64 0,.pointer (some ⟨ml.m,0,none⟩),tv,.int .i64 0,.int .i64 0,.slice none 0 0,.bool false,.int .i64 0] 109
 mem : MAt wr ml M
 thr : wr.ownsRow w.heap.size 111 1 tv wks.length (ptrs wks)
 wk : ∀ i b : Nat,wks[i]? = some b->At wr b (VWorker.new i).cells 118
 apart : wks.Nodup
 new : ∀ b,b ∈ wks->w.heap.size<=b
 fr : Fr (fun _=>False) w wr
 hs : w.heap.size<=s
section
variable {w wr w1 : World} {kd l : Int} {s : Nat} {ml : MLay} {tv : Value} {wks : List Nat} {M : PMem}
theorem XGrows.push (h : XGrows w wr kd l s ml tv wks M) {g cap b : Nat} {v : List Value} (hb : b = wr.heap.size)
  (ho : w1.ownsRow w.heap.size 111 1 (.slice (some ⟨g,0,none⟩) (wks.length + 1) cap) (wks.length + 1) (ptrs wks ++ [.pointer (some ⟨b,0,none⟩)]))
  (hg : ((wr.alloc (.cells (VWorker.new wks.length).cells.toArray 118)).alloc (.cells v.toArray 111)).grownBy w1 tv.ownBlock) :
  At w1 s [.int .i64 kd,.int .i64 l,.int .i64 0,.pointer (some ⟨ml.m,0,none⟩),tv,.int .i64 0,.int .i64 0,.slice none 0 0,.bool false,.int .i64 0] 109 /\
  XGrows w (w1.setCell ⟨s,4,none⟩ (.slice (some ⟨g,0,none⟩) (wks.length + 1) cap)) kd l s ml (.slice (some ⟨g,0,none⟩) (wks.length + 1) cap) (wks ++ [b]) M:=by
 subst hb;have hA : At w1 s [.int .i64 kd,.int .i64 l,.int .i64 0,.pointer (some ⟨ml.m,0,none⟩),tv,.int .i64 0,.int .i64 0,.slice none 0 0,.bool false,.int .i64 0] 109:=((h.hd.alloc _).alloc _).grown hg (h.hd.ne_row (ownsRow_base h.thr) (by decide));have hrow : ∀ k,tv.ownBlock = some k->w.heap.size<=k/\k < wr.heap.size:=h.thr.lt;have hM : MAt w1 ml M:=by
  refine ⟨((h.mem.hd.alloc _).alloc _).grown hg (h.mem.hd.ne_row (ownsRow_base h.thr) (by decide)),((h.mem.nodes.alloc _).alloc _).kept hg ?_,((h.mem.ents.alloc _).alloc _).kept hg ?_,h.mem.nsmall,h.mem.esmall⟩
  ·exact ownsRow_ne h.mem.nodes (ownsRow_base h.thr) (by decide)
  ·exact ownsRow_ne h.mem.ents (ownsRow_base h.thr) (by decide)
 have hW : ∀ i b : Nat,(wks ++ [wr.heap.size])[i]? = some b->At w1 b (VWorker.new i).cells 118:=by
  intro i b hi;by_cases hlt : i < wks.length
  ·rw [List.getElem?_append_left hlt] at hi;exact (((h.wk i b hi).alloc _).alloc _).grown hg ((h.wk i b hi).ne_row (ownsRow_base h.thr) (by decide))
  ·have hi' : i = wks.length:=by
    have:=(List.getElem?_eq_some_iff.1 hi).1
    simp at this; omega
   subst hi';simp at hi; subst hi;have hnew:=(At.new wr (VWorker.new wks.length).cells 118).alloc (.cells v.toArray 111);refine hnew.grown hg ?_;intro he
   have:=(hrow _ he).2
   omega
 refine ⟨hA,hA.set 4 _,?_,?_,?_,?_,?_,?_,h.hs⟩
 ·exact ⟨(MemAt.hd hM).setOther _ ((MemAt.hd hM).ne hA (by decide)) _,ownsRow_setOther (MemAt.nodes hM) (hA.ne_row (MemAt.nodes hM) (by decide)) _,ownsRow_setOther (MemAt.ents hM) (hA.ne_row (MemAt.ents hM) (by decide)) _,(MemAt.nsmall hM),(MemAt.esmall hM)⟩
 ·have e : ptrs (wks ++ [wr.heap.size]) = ptrs wks ++ [.pointer (some ⟨wr.heap.size,0,none⟩)]:=by simp [ptrs]
  rw [e,List.length_append];exact ownsRow_setOtherB ho (hA.ne_row (ownsRow_base ho) (by decide)) _
 ·intro i b hi;exact (hW i b hi).setOther _ ((hW i b hi).ne hA (by decide)) _
 ·rw [List.nodup_append];refine ⟨h.apart,by simp,?_⟩;intro a ha b hb;simp at hb; subst hb;obtain ⟨i,hi⟩:=List.getElem?_of_mem ha
  have:=(h.wk i a hi).lt
  omega
 ·intro b hb;simp at hb;rcases hb with hb | rfl
  ·exact h.new b hb
  ·exact h.fr.size
 ·exact Fr.setNew h.hs (((h.fr.alloc _).alloc _).grown hg (fun k hk=>.inr (hrow k hk).1)) _ _
end
theorem XNew_yes (k t n e l : Int) (w : World) (hok : okCfg k t n e l = true) :
  Calls Tryz.prog 41 #[cfg k t n e l] w fun r w'=>∃ L : XLay,r = .returned (.tuple #[.pointer (some ⟨L.s,0,none⟩),.int .i64 0])/\XAt w' L (freshX k t n e l)/\Fr (fun _=>False) w w'/\∀ b,L.own b->w.heap.size<=b:=by
 have Hok : Hid (okCfg k t n e l = true):=hok;have hb : (0<=k/\k<=1)/\(1<=t/\t<=8)/\(0<=n/\n<=64)/\(1<=e/\e<=256)/\(0<=l/\l<=1099511627776):=by
  simp only [okCfg,Bool.and_eq_true,isIn_iff] at hok;omega
 obtain ⟨⟨k0,k1⟩,⟨t0,t1⟩,⟨n0,n1⟩,⟨e0,e1⟩,⟨l0,l1⟩⟩:=hb;obtain ⟨t,rfl⟩:=Int.eq_ofNat_of_zero_le (show 0<=t by omega);obtain ⟨n,rfl⟩:=Int.eq_ofNat_of_zero_le n0;obtain ⟨e,rfl⟩:=Int.eq_ofNat_of_zero_le (show 0<=e by omega);obtain ⟨iW,hiW,hzW,hsW,hbW⟩:=info_parts Tryz.infoWorkerPtr;clear hok;unfold cfg
 go_enter Tryz.func41,Tryz.ntmps41
 go_wp2_with fail;refine (isConfig_calls k t n e l _).mono ?_;rintro r w1 ⟨rfl,hF⟩;rw [Hok.out];have hC : At w1 w.heap.size [.int .i64 k,.int .i64 t,.int .i64 n,.int .i64 e,.int .i64 l] 23:=hF.at (At.new w _ _) (fun h=>h);have hcc:=hC.cell;have hF1 : Hid (Fr (fun _=>False) w w1):=((Fr.refl _ _).alloc _).trans hF;have HC:=(mkH (At w1 w.heap.size _ _) <|hC);have hsz1:=hC.lt;clear hF hC;go_wp2_with fail;refine (MNew_calls _ n e (by omega) (by omega) (by omega)).mono ?_;rintro r w2 ⟨ml,rfl,hM,hF2,hm,hnb,heb⟩;have hS : At w2 w1.heap.size [.int .i64 k,.int .i64 l,.int .i64 0,.pointer none,.slice none 0 0,.int .i64 0,.int .i64 0,.slice none 0 0,.bool false,.int .i64 0] 109:=hF2.at (At.new w1 _ _) (fun h=>h);have hC2 : At w2 w.heap.size [.int .i64 k,.int .i64 t,.int .i64 n,.int .i64 e,.int .i64 l] 23:=hF2.at (HC.out.alloc _) (fun h=>h);have hFt : Fr (fun _=>False) w w2:=(hF1.out.alloc _).trans hF2;simp only [World.size_alloc] at hm hnb heb;have hne : w.heap.size≠w1.heap.size:=by omega
 have G0 : XGrows w (w2.setCell ⟨w1.heap.size,3,none⟩ (.pointer (some ⟨ml.m,0,none⟩))) k l w1.heap.size ml (.slice none 0 0) [] (freshMem n e):=by
  refine ⟨hS.set 3 _,?_,World.ownsRow_nil _ _ _ _,by intro i b h; simp at h,by simp,by intro b h; simp at h,Fr.setNew (by omega) hFt _ _,by omega⟩;exact ⟨(MemAt.hd hM).setOther _ ((MemAt.hd hM).ne hS (by decide)) _,ownsRow_setOther (MemAt.nodes hM) (hS.ne_row (MemAt.nodes hM) (by decide)) _,ownsRow_setOther (MemAt.ents hM) (hS.ne_row (MemAt.ents hM) (by decide)) _,(MemAt.nsmall hM),(MemAt.esmall hM)⟩
 have HG0:=(mkH (XGrows _ _ _ _ _ _ _ _ _) <|G0);have HC2:=(mkH (At (w2.setCell ⟨w1.heap.size,3,none⟩ (.pointer (some ⟨ml.m,0,none⟩))) w.heap.size _ _) <|hC2.setOther _ hne _);have hcs:=hS.cell;have hzs:=hS.frozen;clear hcc hC2 hM hF2 HC G0 hFt hS hF1;go_wp2_with fail;clear hcs hzs
 go_loopw [5] (fun i wr=>∃ (j : Nat) (tv : Value) (wks : List Nat),j<=t/\wks.length = j/\i = .int .i64 j/\Hid (At wr w.heap.size [.int .i64 k,.int .i64 t,.int .i64 n,.int .i64 e,.int .i64 l] 23) /\
   Hid (XGrows w wr k l w1.heap.size ml tv wks (freshMem n e))) (fun i _=>t - (intOf i).toNat)
 case atStart=>exact ⟨0,_,[],Nat.zero_le _,rfl,rfl,HC2,HG0⟩
 case round =>
  clear HG0 HC2;obtain ⟨j,tv,wks,hj,hwl,rfl,HC,HG⟩:=hrel;have hcc:=HC.out.cell;have hcs:=HG.out.hd.cell;have hzs:=HG.out.hd.frozen;have hsz:=HG.out.fr.size;have hl1:=HG.out.hd.lt;by_cases hjt : j < t
  ·subst hwl;go_wp2_with (at_builtin; refine wpList_push _ rfl _ _ 105 rfl w.heap.size 111 iW (.pointer none) 1 8 Tryz.underlying105 hiW hzW hsW hbW rfl (by decide) _ _ _ rfl (ownsRow_alloc (ownsRow_alloc HG.out.thr _) _) (wr.heap.size + 1) [.pointer (some ⟨wr.heap.size,0,none⟩)] rfl rfl 111 (At.newAt (by simp) _ _) (by simp [Value.oneCell']) (by unfold maxLen; omega) (by omega) (by simp; omega) ?_);intro g cap w' hown hg hge;have R:=HG.out.push (b:=wr.heap.size) (v:=[.pointer (some ⟨wr.heap.size,0,none⟩)]) rfl hown hg;have hC' : At w' w.heap.size [.int .i64 k,.int .i64 t,.int .i64 n,.int .i64 e,.int .i64 l] 23:=((HC.out.alloc _).alloc _).grown hg (HC.out.ne_row (ownsRow_base HG.out.thr) (by decide));obtain ⟨hA,hG⟩:=R;have hcc:=hC'.cell;have hcs:=hA.cell;have hzs:=hA.frozen;have HG':=(mkH (XGrows _ _ _ _ _ _ _ _ _) <|hG);have HC':=(mkH (At (w'.setCell ⟨w1.heap.size,4,none⟩ (.slice (some ⟨g,0,none⟩) (wks.length + 1) cap)) w.heap.size _ _) <|hC'.setOther _ hne _);clear hA hown hg hG HG HC hC' hsz hl1;go_wp2
   go_roundw
   case rel=>exact ⟨wks.length + 1,_,_,by omega,by simp,by go_num,HC',HG'⟩
   case measure=>simp [intOf]; omega
  ·have hjt' : j = t:=by omega
   subst hjt';obtain ⟨tb,tcap,rfl,_⟩:=ownsRow_shape (ownsRow_base HG.out.thr) (by omega);have hX : XAt wr ⟨w1.heap.size,ml,tb,tcap,wks⟩ (freshX k j n e l):=by
    refine ⟨?_,?_,?_,?_,?_,?_,HG.out.apart⟩
    ·simp only [freshX,Int.toNat_natCast,freshTs_len]; rw [<- hwl]; exact HG.out.hd
    ·simp only [freshX,Int.toNat_natCast]; exact HG.out.mem
    ·simp only [freshX,Int.toNat_natCast,freshTs_len]; rw [<- hwl]; exact ownsRow_base HG.out.thr
    ·simp only [freshX,Int.toNat_natCast,freshTs_len]; exact hwl
    ·intro i b t' hb ht;simp only [freshX,Int.toNat_natCast] at ht;obtain ⟨_,rfl⟩:=freshTs_get ht;exact HG.out.wk i b hb
    ·simp only [freshX,Int.toNat_natCast,freshTs_len]; omega
   have HX:=(mkH (XAt _ _ _) <|hX);have hF:=(mkH (Fr _ _ _) <|HG.out.fr);have hnew:=(mkH (∀ b,b ∈ wks->w.heap.size<=b) <|HG.out.new);have htb:=(HG.out.thr.lt tb rfl).1;clear hX HG hcs hzs hsz hl1;go_wp2;go_ret2;refine ⟨⟨w1.heap.size,ml,tb,tcap,wks⟩,rfl,HX.out,hF.out,?_⟩;intro b hb;simp only [XLay.own] at hb;rcases hb with rfl | rfl | rfl | rfl | rfl | hb
   ·omega
   ·omega
   ·omega
   ·omega
   ·omega
   ·exact hnew.out b hb
end
section
open Go.RowKit
def PairsAt (w : World) (a : Option Addr) (ps : List (Int × Int)) : Prop:=∀ (i : Nat) p,ps[i]? = some p->∃ g,a = some ⟨g,0,none⟩/\w.cell? ⟨g,i * 2,none⟩ = some (.int .i64 p.1)/\w.cell? ⟨g,i * 2 + 1,none⟩ = some (.int .i64 p.2)
theorem cellHeap {w w' : World} {a : Addr} (h : w'.heap[a.block]? = w.heap[a.block]?) : w'.cell? a = w.cell? a:=by
 unfold World.cell?; rw [h]
theorem cellLt {w : World} {a : Addr} {v : Value} (h : w.cell? a = some v) : a.block < w.heap.size:=by
 rcases Nat.lt_or_ge a.block w.heap.size with h1 | h1
 ·exact h1
 ·unfold World.cell? at h; rw [Array.getElem?_eq_none h1] at h; simp at h
theorem Fr.keepCell {w w' : World} (hf : Fr (fun _=>False) w w') {a : Addr} {v : Value} (h : w.cell? a = some v) : w'.cell? a = some v:=by
 rw [cellHeap (hf.block a.block (cellLt h) (fun hh=>hh))]; exact h
theorem PairsAt.calm {w w' : World} {a : Option Addr} {ps : List (Int × Int)} (h : PairsAt w a ps) (hf : Fr (fun _=>False) w w') : PairsAt w' a ps:=by
 intro i p hp;obtain ⟨g,e,c0,c1⟩:=h i p hp;exact ⟨g,e,hf.keepCell c0,hf.keepCell c1⟩
theorem PairsAt.ofRow {own : Own} {z : Nat} {w : World} {tag : Tag} {T : TypeId} {a : Option Addr} {c n : Nat} {ps : List (Int × Int)} (h : Row own z w tag T 2 (.slice a n c) ps.length (ps.flatMap pairCells)) : PairsAt w a ps:=by
 intro i p hp;have hn : ps.length≠0:=by intro e; rw [List.eq_nil_of_length_eq_zero e] at hp; simp at hp
 obtain ⟨g,c',hv,_⟩:=ownsRow_shape h.row hn;have ho:=h.row;rw [hv] at ho;obtain ⟨h1,h2⟩:=pair_get hp;simp at hv;exact ⟨g,hv.1,ownsRow_cell ho h1,ownsRow_cell ho h2⟩
theorem Tryz.infoPr : (Tryz.prog.info? 95).map (fun i=>(i.zero,i.size,i.bytes)) = some (some (.agg #[.int .i64 0,.int .i64 0]),2,16):=by kernel_rfl
theorem Tryz.infoPs : (Tryz.prog.info? 47).map (fun i=>(i.zero,i.size,i.bytes)) = some (some (.slice none 0 0),1,24):=by kernel_rfl
theorem filter_take {α : Type} {es : List α} {k : Nat} {x : α} (h : es[k]? = some x) (p : α->Bool) : (es.take (k + 1)).filter p = (es.take k).filter p ++ (if p x then [x] else []):=by
 rw [List.take_add_one,h,List.filter_append];simp only [Option.toList_some,List.filter_cons,List.filter_nil]
structure OwnPairs (w0 w : World) (v : Value) (ps : List (Int × Int)) : Prop where
 row : w.ownsRow 0 95 2 v ps.length (ps.flatMap pairCells)
 new : ∀ k,v.ownBlock = some k->w0.heap.size<=k
 fr : Fr (fun _=>False) w0 w
theorem OwnPairs.calm {w0 w w' : World} {v : Value} {ps : List (Int × Int)} (h : OwnPairs w0 w v ps) (hf : Fr (fun _=>False) w w') : OwnPairs w0 w' v ps:=⟨hf.owns h.row (fun _ _ h=>h),h.new,h.fr.trans hf⟩
theorem pairsIn_calls (w : World) (sp : Int × Int) (a : Option Addr) (c : Nat) (ps : List (Int × Int)) (hsm : ps.length<=2 ^ 40) (ha : PairsAt w a ps) :
  Calls Tryz.prog 131 #[.agg #[.int .i64 sp.1,.int .i64 sp.2],.slice a ps.length c] w fun r w'=>∃ v,r = .returned v/\OwnPairs w w' v (ps.filter (inSpan sp)):=by
 obtain ⟨iP,hiP,hzP,hsP,hbP⟩:=info_parts Tryz.infoPr;have HA:=(mkH (PairsAt w a ps) <|ha);have HB0:=(mkH (At (w.alloc (.cells #[.int .i64 sp.1,.int .i64 sp.2] 81)) w.heap.size [.int .i64 sp.1,.int .i64 sp.2] 81) <|At.new w [.int .i64 sp.1,.int .i64 sp.2] _);have HF0:=(mkH (Fr (fun _=>False) w (w.alloc (.cells #[.int .i64 sp.1,.int .i64 sp.2] 81))) <|(Fr.refl _ _).alloc _);clear ha
 go_enter Tryz.func131,Tryz.ntmps131
 go_wp2
 go_loopw [5,9] (fun v i wr=>∃ k : Nat,k<=ps.length/\i = .int .i64 k/\Hid (OwnPairs w wr v ((ps.take k).filter (inSpan sp)))/\Hid (At wr w.heap.size [.int .i64 sp.1,.int .i64 sp.2] 81)/\Hid (v.ownBlock≠some w.heap.size)) (fun _ i _=>ps.length - (intOf i).toNat)
 case atStart =>
  refine ⟨0,Nat.zero_le _,rfl,⟨⟨by simp,.inl ⟨rfl,rfl⟩⟩,by intro k hk; simp [Value.ownBlock] at hk,HF0.out⟩,HB0,?_⟩;show _≠_;simp [Value.ownBlock]
 case round =>
  clear HB0 HF0;obtain ⟨k,hk,rfl,HO,HB,HNB⟩:=hrel;have hbc:=HB.out.cell;by_cases hlt : k < ps.length
  ·have hx : Hid (ps[k]? = some ps[k]):=List.getElem?_eq_getElem hlt;generalize ps[k] = x at hx;obtain ⟨g,rfl,c0,c1⟩:=(HA.out.calm HO.out.fr) k x hx.out;have HN:=(show Hid _ from filter_take hx.out (inSpan sp));go_wp2_with fail;refine wp_region_calm [9] 0 rfl (by kernel_rfl) (by kernel_rfl) (by kernel_rfl) (by decide) (by kernel_rfl) (by decide) ?_;intro U W hU hW;have d0 : ∀ u,(W u).cell? ⟨g,k * 2,none⟩ = some (.int .i64 x.1):=fun u=>(hW u).keepCell c0
   have hbu : ∀ u o,(W u).cell? ⟨w.heap.size,o,none⟩ = [Value.int .i64 sp.1,.int .i64 sp.2][o]?:=fun u=>((hW u).at HB.out (fun h=>h)).cell
   clear hW
   repeat (refine mix_read rfl rfl ?_; go_big_quiet_step (fail); refine wpQuiet_nil ?_)
   refine mix_effC (.bool (inSpan sp x)) rfl rfl rfl ?_ ?_
   ·intro w' hw';go_simp;refine (isWithin_calls x.1 sp.1 sp.2 w').mono ?_;rintro e w'' ⟨rfl,rfl⟩;exact ⟨rfl,hw'⟩
   go_simp;refine mix_nil ?_;intro w2 hw2;have HF2:=(mkH (Fr (fun _=>False) wr w2) <|hw2);have c0:=hw2.keepCell c0;have c1:=hw2.keepCell c1;have HO2:=(mkH (OwnPairs w w2 _ _) <|HO.out.calm hw2);have HB2:=(mkH (At w2 w.heap.size _ _) <|hw2.at HB.out (fun h=>h));clear d0 hbu hw2 hbc HO HB HF2;cases hin : inSpan sp x
   ·go_wp2
    go_roundw
    case rel=>exact ⟨k + 1,by omega,by go_num,by show OwnPairs _ _ _ _; rw [HN.out,hin]; simpa using HO2.out,HB2,HNB⟩
    case measure=>simp [intOf]; omega
   ·have HFL:=(mkH (((ps.take k).filter (inSpan sp)).length<=2 ^ 40) <|Nat.le_trans (List.length_filter_le _ _) (by rw [List.length_take]; omega));go_wp2_with (at_builtin; refine wpList_push _ rfl _ _ 47 rfl 0 95 iP _ 2 16 Tryz.underlying47 hiP hzP hsP hbP rfl (by decide) _ _ _ rfl (ownsRow_alloc HO2.out.row _) w2.heap.size [.int .i64 x.1,.int .i64 x.2] rfl rfl 95 (At.newAt (by simp) _ _) (by simp [Value.oneCell']) (by have:=HFL.out; unfold maxLen; omega) (by have:=HFL.out; omega) (by simp) ?_);intro g' cap w3 hown hgr hge;have HO3 : Hid (OwnPairs w w3 (.slice (some ⟨g',0,none⟩) (((ps.take k).filter (inSpan sp)).length + 1) cap) ((ps.take (k + 1)).filter (inSpan sp))):=by
     show OwnPairs _ _ _ _;rw [HN.out,hin];refine ⟨?_,?_,Fr.grown (HO2.out.fr.alloc _) hgr (fun k hk=>.inr (HO2.out.new k hk))⟩
     ·simpa [pairCells] using hown
     ·intro q hq;simp [Value.ownBlock] at hq;subst hq;rcases hge with h | h
      ·exact HO2.out.new _ h
      ·have:=HO2.out.fr.size; first | omega | (simp at h; omega)
    have HB3 : Hid (At w3 w.heap.size [.int .i64 sp.1,.int .i64 sp.2] 81):=(Fr.grown (S:=fun j=>u5.ownBlock = some j) (Fr.refl _ _) hgr (fun j hj=>.inl hj)).at (HB2.out.alloc _) HNB.out;have HNB3 : Hid ((Value.slice (some ⟨g',0,none⟩) (((ps.take k).filter (inSpan sp)).length + 1) cap).ownBlock≠some w.heap.size):=by
     show _≠_;intro e;simp [Value.ownBlock] at e;subst e;rcases hge with h | h
     ·exact HNB.out h
     ·have:=HB2.out.lt; first | omega | (simp at h; omega)
    clear hown hgr hge HO2 HB2 HNB;go_wp2
    go_roundw
    case rel=>exact ⟨k + 1,by omega,by go_num,HO3,HB3,HNB3⟩
    case measure=>simp [intOf]; omega
  ·have hke : k = ps.length:=by omega
   have HO' : Hid (OwnPairs w wr u5 (ps.filter (inSpan sp))):=by
    have:=HO.out
    rw [hke,List.take_length] at this;exact this
   clear HO hke;go_wp2;go_ret;exact ⟨u5,rfl,HO'.out⟩
end
section
open Go.RowKit
theorem wp_region_end {Pg : Program} {id : Nat} {Q : Exit->Go.Act->World->Prop} {a : Go.Act} {w : World} {l : List Oper} (eff : Nat) (C : World->Prop)
  (hm : Pg.follows .mixedOrders = true) (hB : Region.lexB .any l.toArray = true) (hch : chainB .any l.toArray [eff] = true) (hlow : lowB .any l.toArray = true) (hin : eff < l.length)
  (h : ∀ (U : Type) (W : U->World),Nonempty U->(∀ u,Fr (fun _=>False) w (W u)\/C (W u))->wpMix Pg l.toArray (fun w'=>∃ u,w' = W u) (fun k w'=>(k = 0->Fr (fun _=>False) w w')/\(k = 1->C w')) [eff] (fun a'=>∀ w',C w'->Q .normal a' w') l 0 0 a) :
  (Code.region id l.toArray true).wp Pg Q a w:=by
 refine wp_region_mixC [eff] (fun k w'=>(k = 0->Fr (fun _=>False) w w')/\(k = 1->C w')) 0 rfl hm hB hch (by simp) hlow (by simpa using hin) ⟨fun _=>(Fr.refl _ _).drew,by simp⟩ ?_;intro U W hU hW
 have:=h U W hU (fun u=>by
  obtain ⟨k,hk,h0,h1⟩:=hW u;rcases (show k = 0\/k = 1 by omega) with rfl | rfl
  ·exact .inl (h0 rfl)
  ·exact .inr (h1 rfl))
 simpa using this
section
variable {own : Own} {z : Nat} {w : World} {L : ZLay} {P : PSt}
theorem ZGoes.then {w1 w2 : World} {P1 : PSt} (h : ZGoes own z w L P1 w1) {P2 : PSt} (hn : ∀ own1 L1,ZAt own1 z w1 L1 P1->L1.s = L.s->ZGoes own1 z w1 L1 P2 w2) : ZGoes own z w L P2 w2:=by
 obtain ⟨own1,L1,hZ,hE,hF,e1,e2,e3⟩:=h;exact ZGoes.trans hE hF e1 e2 e3 (hn own1 L1 hZ e1)
theorem ZAt.madeSet (h : ZAt own z w L P) (m : Nat) : ZGoes own z w L (P.setS { P.sweep with made:=m }) (w.setCell ⟨L.s,5,none⟩ (.int .i64 m)) :=
 ZGoes.here (h.sweepCells (r:={ P.sweep with made:=m }) ((Fr.refl _ _).set1 5 (.int .i64 m)) (h.hd.set 5 (.int .i64 m)) rfl)
theorem ZAt.sweepZero (h : ZAt own z w L P) : ZGoes own z w L (P.setS PSweep.zero) (((((w.setCell ⟨L.s,5,none⟩ (.int .i64 0)).setCell ⟨L.s,6,none⟩ (.int .i64 0)).setCell ⟨L.s,7,none⟩ (.slice none 0 0)).setCell ⟨L.s,8,none⟩ (.bool false)).setCell ⟨L.s,9,none⟩ (.int .i64 0)):=by
 have hr:=h.sweepSet (own':=own) (r:=PSweep.zero) (v:=.slice none 0 0) ((((((Fr.refl _ _).set1 5 (.int .i64 0)).set1 6 (.int .i64 0)).set1 7 (.slice none 0 0)).set1 8 (.bool false)).set1 9 (.int .i64 0)) (Ext.refl _ _)
  (((((h.hd.set 5 (.int .i64 0)).set 6 (.int .i64 0)).set 7 (.slice none 0 0)).set 8 (.bool false)).set 9 (.int .i64 0)) (Row.nil _ _ _ _ _ _)
 exact ⟨own,{ L with retired:=.slice none 0 0 },hr.1,Ext.refl _ _,hr.2,rfl,rfl,rfl⟩
theorem sweepStep_calls (h : ZAt own z w L P) (hm : P.sweep.made<=100) (hr : P.sweep.retired.length<=100) :
  Calls Tryz.prog 60 #[.pointer (some ⟨L.s,0,none⟩)] w fun e w'=>e = .returned (.int .i64 P.doSweep.2)/\ZGoes own z w L P.doSweep.1 w':=by
 have hs:=h.hd.cell;have hz:=h.hd.frozen;have hfew:=h.few;obtain ⟨ta,tc,htv⟩ : ∃ a c,L.tv = .slice a P.ts.length c:=by
  rcases h.th.row.2 with ⟨h1,h2⟩ | ⟨g,cap,_,h1,_⟩
  ·exact ⟨none,0,by rw [h1,h2]⟩
  ·exact ⟨_,cap,h1⟩
 simp only [PSt.head,htv] at hs;have H:=(mkH (ZAt own z w L P) <|h);have HTV:=(mkH (L.tv = _) <|htv);clear h htv;by_cases h0 : P.sweep.made = 0
 ·have HE : Hid (P.doSweep = ((P.setS { P.sweep with clock:=P.clock,retired:=retiredFrom P.mem.ns 0 }).setS { P.sweep with clock:=P.clock,retired:=retiredFrom P.mem.ns 0,made:=1 },1)):=by
   show _ = _; unfold PSt.doSweep; simp only [h0,if_true]; rfl
  have h0' : ((P.sweep.made : Int) == 0) = true:=by simp [h0]
  have Hm:=(mkH (P.sweep.made = 0) <|h0);clear h0
  go_enter Tryz.func60,Tryz.ntmps60
  go_wp2_with fail;refine (beginSweep_calls H.out).mono ?_;rintro e w1 ⟨rfl,own1,L1,hZ1,hE1,hF1,e1,e2,e3⟩;have HG:=(mkH (ZGoes own z w L _ w1) <|⟨own1,L1,hZ1,hE1,hF1,e1,e2,e3⟩);have hs:=hZ1.hd.cell;have hz:=hZ1.hd.frozen;simp only [PSt.head,PSt.setS,e1] at hs hz;rw [Hm.out] at hs;clear hZ1 hE1 hF1 e2 e3 e1;go_wp2;go_ret;rw [HE.out];refine ⟨rfl,HG.out.then (fun own1 L1 hZ he=>?_)⟩
  have:=hZ.madeSet 1
  rw [he] at this;exact this
 ·have h0' : ((P.sweep.made : Int) == 0) = false:=by simp [h0]
  have Hm:=(mkH (P.sweep.made≠0) <|h0);by_cases h1 : P.sweep.made - 1 < P.ts.length
  ·obtain ⟨j,hj⟩ : ∃ j,P.sweep.made = j + 1:=⟨P.sweep.made - 1,by omega⟩;have hjl : j < P.ts.length:=by omega
   have ht : P.ts[j]? = some P.ts[j]:=List.getElem?_eq_getElem hjl;generalize P.ts[j] = t at ht;have hth : P.th (P.sweep.made - 1) = t:=by rw [hj]; simp [PSt.th,ht]
   have hI : Hid (isIn ((P.sweep.made : Int) - 1) 0 ((P.ts.length : Int) - 1) = true):=isIn_true (by omega);obtain ⟨l,tb,cap,hl,htv,hptr⟩:=H.out.wkPtr ht;obtain ⟨ha,haz,hal,hs2,hsz2,hsl,n1,n2⟩:=H.out.view hl ht;clear hs2 hsz2;have hptr' : w.cell? ⟨tb,((P.sweep.made : Int) - 1).toNat,none⟩ = some (.pointer (some ⟨l.b,0,none⟩)):=by rw [show ((P.sweep.made : Int) - 1).toNat = j by omega]; exact hptr
   have hptr'' : w.cell? ⟨tb,P.sweep.made - 1,none⟩ = some (.pointer (some ⟨l.b,0,none⟩)):=by rw [show P.sweep.made - 1 = j by omega]; exact hptr
   have hta : ta = some ⟨tb,0,none⟩:=by
    have:=HTV.out; rw [htv] at this; simp at this; exact this.1.symm
   subst hta;simp only [PThread.cells] at ha;have HL:=(mkH (L.wks[j]? = some l/\P.ts[j]? = some t) <|⟨hl,ht⟩);have HJ:=(mkH (P.sweep.made = j + 1) <|hj);have hb1 : 1<=P.sweep.made:=by omega
   have hb2 : P.sweep.made<=P.ts.length:=by omega
   clear hl ht htv hptr h0 haz;by_cases hsl1 : t.slot = 1
   ·have HE : Hid (P.doSweep = (P,2)):=by
     show _ = _; unfold PSt.doSweep; simp only []; rw [if_neg Hm.out,if_pos h1,hth,if_pos hsl1]
    have hq : (t.slot == 1) = true:=by simp [hsl1]
    clear hth hsl1 hj h1
    go_enter Tryz.func60,Tryz.ntmps60
    go_wp2_with fail;refine (ZhasThread_calls H.out _).mono ?_;rintro e w' ⟨rfl,rfl⟩;rw [hI.out];go_wp2;go_ret;rw [HE.out];exact ⟨rfl,own,L,H.out,Ext.refl _ _,Fr.refl _ _,rfl,rfl,rfl⟩
   ·have HE : Hid (P.doSweep = ((P.setS (P.sweep.lookAt t)).setS { P.sweep.lookAt t with made:=P.sweep.made + 1 },1)):=by
     show _ = _; unfold PSt.doSweep; simp only []; rw [if_neg Hm.out,if_pos h1,hth,if_neg hsl1]; rfl
    have hq : (t.slot == 1) = false:=by simp [hsl1]
    have HLm : Hid ((P.sweep.lookAt t).made = P.sweep.made):=by
     show _ = _; unfold PSweep.lookAt; split <;> rfl
    clear hth hsl1 hj h1;have HB:=(mkH (At w L.s _ 109) <|H.out.hd);have HW:=(mkH (At w l.b _ 118) <|(H.out.wk j l t HL.out.1 HL.out.2).at_);have HC:=(mkH (∀ w',Fr (fun _=>False) w w'->_) <|fun w' (hf : Fr (fun _=>False) w w')=>lookAt_calls (H.out.calm hf) HL.out.1 HL.out.2)
    go_enter Tryz.func60,Tryz.ntmps60
    go_wp2_with fail;refine (ZhasThread_calls H.out _).mono ?_;rintro e w' ⟨rfl,rfl⟩;rw [hI.out];go_wp2_with fail;have HPt:=(mkH (∀ u : World,Fr (fun _=>False) w' u\/(ZAt own z u L (P.setS (P.sweep.lookAt t))/\FrZ own z w' u)->u.cell? ⟨L.s,4,none⟩ = some (.slice (some ⟨tb,0,none⟩) P.ts.length tc)/\u.cell? ⟨tb,P.sweep.made - 1,none⟩ = some (.pointer (some ⟨l.b,0,none⟩))) <|fun u hu=>by
     rcases hu with hu | ⟨hu,_⟩
     ·exact ⟨by rw [((H.out.calm hu).hd.cell 4)]; show some L.tv = _; rw [HTV.out],hu.keepCell hptr''⟩
     ·refine ⟨by rw [hu.hd.cell 4]; show some L.tv = _; rw [HTV.out],?_⟩;obtain ⟨l2,tb2,cap2,h1,h2,h3⟩:=hu.wkPtr (i:=j) (t:=t) HL.out.2;rw [HTV.out] at h2;simp at h2;rw [h2.1,show P.sweep.made - 1 = j by rw [HJ.out]; omega];rw [HL.out.1] at h1;rw [Option.some.inj h1];exact h3)
    refine wp_region_end 10 (fun u=>ZAt own z u L (P.setS (P.sweep.lookAt t))/\FrZ own z w' u) (by kernel_rfl) (by kernel_rfl) (by kernel_rfl) (by kernel_rfl) (by decide) ?_;intro U W hU hW;have hsu : ∀ u,(W u).cell? ⟨L.s,4,none⟩ = some (.slice (some ⟨tb,0,none⟩) P.ts.length tc):=fun u=>(HPt.out _ (hW u)).1
    have hpu : ∀ u,(W u).cell? ⟨tb,P.sweep.made - 1,none⟩ = some (.pointer (some ⟨l.b,0,none⟩)):=fun u=>(HPt.out _ (hW u)).2
    clear hW hs hptr' hptr''
    repeat (refine mix_read rfl rfl ?_; go_big_quiet_step (fail); refine wpQuiet_nil ?_)
    refine mix_effC (.tuple #[]) rfl rfl rfl ?_ ?_
    ·intro w1 hw1;have hw0:=hw1.1 rfl;go_simp;refine (HC.out w1 hw0).mono ?_;rintro e w2 ⟨rfl,h1,h2⟩;exact ⟨rfl,h1,Fr.trans (Fr.mono hw0 (fun _ _ h=>h.elim)) h2⟩
    go_simp
    repeat (refine mix_read rfl rfl ?_; go_big_quiet_step (fail); refine wpQuiet_nil ?_)
    refine mix_nil ?_;intro w2 hZ2 hF2;have HZ2:=(mkH (ZAt own z w2 L (P.setS (P.sweep.lookAt t))/\FrZ own z w' w2) <|⟨hZ2,hF2⟩);have hs:=hZ2.hd.cell;have hz:=hZ2.hd.frozen;simp only [PSt.head,PSt.setS,HLm.out] at hs hz;clear hZ2 hF2 hsu hpu HC HPt;go_wp2;go_ret;rw [HE.out];refine ⟨rfl,ZGoes.trans (Ext.refl _ _) HZ2.out.2 rfl rfl rfl ?_⟩;exact HZ2.out.1.madeSet (P.sweep.made + 1)
  ·have hI : Hid (isIn ((P.sweep.made : Int) - 1) 0 ((P.ts.length : Int) - 1) = false):=isIn_false (by omega);have hb1 : 1<=P.sweep.made:=by omega
   by_cases h2 : P.sweep.made - 1 = P.ts.length
   ·have HE : Hid (P.doSweep = ((P.setM (P.mem.drop P.sweep.till)).setS { P.sweep with made:=P.sweep.made + 1 },1)):=by
     show _ = _; unfold PSt.doSweep; simp only []; rw [if_neg Hm.out,if_neg h1,if_pos h2]; rfl
    have hq : ((P.sweep.made : Int) - 1 == (P.ts.length : Int)) = true:=by simp; omega
    clear h0 h1 h2
    go_enter Tryz.func60,Tryz.ntmps60
    go_wp2_with fail;refine (ZhasThread_calls H.out _).mono ?_;rintro e w' ⟨rfl,rfl⟩;rw [hI.out];go_wp2_with fail;refine (dropEntries_calls H.out).mono ?_;rintro e w2 ⟨rfl,hZ2,hF2⟩;have HZ2:=(mkH (ZAt own z w2 L (P.setM (P.mem.drop P.sweep.till))/\FrZ own z w' w2) <|⟨hZ2,hF2⟩);have hs:=hZ2.hd.cell;have hz:=hZ2.hd.frozen;simp only [PSt.head,PSt.setM] at hs hz;clear hZ2 hF2;go_wp2;go_ret;rw [HE.out];refine ⟨rfl,ZGoes.trans (Ext.refl _ _) HZ2.out.2 rfl rfl rfl ?_⟩;exact HZ2.out.1.madeSet (P.sweep.made + 1)
   ·have HE : Hid (P.doSweep = ((P.setM (P.mem.freesIf P.sweep.hasTime P.sweep.time P.sweep.retired)).setS PSweep.zero,3)):=by
     show _ = _; unfold PSt.doSweep; simp only []; rw [if_neg Hm.out,if_neg h1,if_neg h2]; rfl
    have hq : ((P.sweep.made : Int) - 1 == (P.ts.length : Int)) = false:=by simp; omega
    clear h0 h1 h2
    go_enter Tryz.func60,Tryz.ntmps60
    go_wp2_with fail;refine (ZhasThread_calls H.out _).mono ?_;rintro e w' ⟨rfl,rfl⟩;rw [hI.out];go_wp2_with fail;refine (freeNodes_calls H.out hr).mono ?_;rintro e w2 ⟨rfl,hZ2,hF2⟩;have HZ2:=(mkH (ZAt own z w2 L (P.setM (P.mem.freesIf P.sweep.hasTime P.sweep.time P.sweep.retired))/\FrZ own z w' w2) <|⟨hZ2,hF2⟩);have hs:=hZ2.hd.cell;have hz:=hZ2.hd.frozen;simp only [PSt.head,PSt.setM] at hs hz;clear hZ2 hF2;go_wp2;go_ret;rw [HE.out];refine ⟨rfl,ZGoes.trans (Ext.refl _ _) HZ2.out.2 rfl rfl rfl ?_⟩;exact HZ2.out.1.sweepZero
theorem ZSweep_calls (h : ZAt own z w L P) (hm : P.sweep.made<=100) (hr : P.sweep.retired.length<=100) :
  Calls Tryz.prog 42 #[.pointer (some ⟨L.s,0,none⟩)] w fun e w'=>e = .returned (.int .i64 P.doSweep.2)/\ZGoes own z w L P.doSweep.1 w':=by
 have H:=(mkH (ZAt own z w L P) <|h);clear h
 go_enter Tryz.func42,Tryz.ntmps42
 go_wp2_with fail;refine (sweepStep_calls H.out hm hr).mono ?_;rintro e w' ⟨rfl,hG⟩;have HG:=(mkH (ZGoes _ _ _ _ _ _) <|hG);clear hG;go_wp2;go_ret;exact ⟨rfl,HG.out⟩
end
end
section
open Go.RowKit
theorem ownsShape {w : World} {e : TypeId} {size : Nat} {v : Value} {n : Nat} {xs : List Value} (h : w.ownsRow 0 e size v n xs) : ∃ a c,v = .slice a n c:=by
 rcases h.2 with ⟨h1,h2⟩ | ⟨g,cap,_,h,_⟩
 ·exact ⟨none,0,by rw [h1,h2]⟩
 ·exact ⟨_,cap,h⟩
structure OwnLists (w0 w : World) (v : Value) (ll : List (List (Int × Int))) : Prop where
 nil : ll = []->v = .slice none 0 0
 top : ∃ ins : List Value,ins.length = ll.length/\w.ownsRow 0 47 1 v ll.length ins/\∀ (i : Nat) (u : Value) (l : List (Int × Int)),ins[i]? = some u->ll[i]? = some l->w.ownsRow 0 95 2 u l.length (l.flatMap pairCells)/\∀ k,u.ownBlock = some k->w0.heap.size<=k
 new : ∀ k,v.ownBlock = some k->w0.heap.size<=k
 fr : Fr (fun _=>False) w0 w
theorem OwnLists.calm {w0 w w' : World} {v : Value} {ll : List (List (Int × Int))} (h : OwnLists w0 w v ll) (hf : Fr (fun _=>False) w w') : OwnLists w0 w' v ll:=by
 obtain ⟨ins,h1,h2,h3⟩:=h.top;exact ⟨h.nil,⟨ins,h1,hf.owns h2 (fun _ _ h=>h),fun i u l a b=>⟨hf.owns (h3 i u l a b).1 (fun _ _ h=>h),(h3 i u l a b).2⟩⟩,h.new,h.fr.trans hf⟩
theorem OwnLists.push {w0 w w1 w2 : World} {v u : Value} {ll : List (List (Int × Int))} {l : List (Int × Int)} {g cap : Nat} {ob : Obj} {ins : List Value} (h : OwnLists w0 w v ll) (hi : ins.length = ll.length) (ht : w.ownsRow 0 47 1 v ll.length ins)
  (hin : ∀ (i : Nat) (u : Value) (l : List (Int × Int)),ins[i]? = some u->ll[i]? = some l->w.ownsRow 0 95 2 u l.length (l.flatMap pairCells)/\∀ k,u.ownBlock = some k->w0.heap.size<=k)
  (hu : w.ownsRow 0 95 2 u l.length (l.flatMap pairCells)) (hun : ∀ k,u.ownBlock = some k->w0.heap.size<=k) (e1 : w1 = w.alloc ob)
  (hown : w2.ownsRow 0 47 1 (.slice (some ⟨g,0,none⟩) (ll.length + 1) cap) (ll.length + 1) (ins ++ [u])) (hgr : w1.grownBy w2 v.ownBlock) (hge : v.ownBlock = some g\/w1.heap.size<=g) :
  OwnLists w0 w2 (.slice (some ⟨g,0,none⟩) (ll.length + 1) cap) (ll ++ [l]):=by
 subst e1;have hF : Fr (fun k=>v.ownBlock = some k) w w2:=Fr.grown (Fr.alloc (Fr.refl _ _) ob) hgr (fun j hj=>.inl hj);have keep : ∀ {u : Value} {l : List (Int × Int)},w.ownsRow 0 95 2 u l.length (l.flatMap pairCells)->w2.ownsRow 0 95 2 u l.length (l.flatMap pairCells):=by
  intro u l hr;refine hF.owns hr ?_;intro k hk he;rcases ownsRow_ne hr ht (by decide) with h1 | h1
  ·rw [h1] at hk; cases hk
  ·exact h1 (hk.trans he.symm)
 refine ⟨by simp,⟨ins ++ [u],by simp [hi],by simpa using hown,?_⟩,?_,h.fr.transNew hF (fun i hi=>.inr (h.new i hi))⟩
 ·intro i a b ha hb;by_cases hlt : i < ins.length
  ·rw [List.getElem?_append_left hlt] at ha;rw [List.getElem?_append_left (by omega)] at hb;exact ⟨keep (hin i a b ha hb).1,(hin i a b ha hb).2⟩
  ·rw [List.getElem?_append_right (by omega)] at ha;rw [List.getElem?_append_right (by omega),<- hi] at hb;cases hz : i - ins.length with
   | zero =>
    rw [hz] at ha hb;simp at ha hb;subst ha; subst hb;exact ⟨keep hu,hun⟩
   | succ q=>rw [hz] at ha; simp at ha
 ·intro k hk;simp [Value.ownBlock] at hk;subst hk;rcases hge with h1 | h1
  ·exact h.new _ h1
  ·have:=h.fr.size
   simp at h1;omega
theorem OwnLists.setOther {w0 w : World} {v : Value} {ll : List (List (Int × Int))} (h : OwnLists w0 w v ll) {b : Nat} {c : List Value} {T : TypeId} (hA : At w b c T) (h1 : T≠47) (h2 : T≠95) (hb : w0.heap.size<=b) (o : Nat) (x : Value) : OwnLists w0 (w.setCell ⟨b,o,none⟩ x) v ll:=by
 obtain ⟨ins,g1,g2,g3⟩:=h.top;exact ⟨h.nil,⟨ins,g1,ownsRow_setOther g2 (a:=⟨b,o,none⟩) (hA.ne_row g2 h1) x,fun i u l p q=>⟨ownsRow_setOther (g3 i u l p q).1 (a:=⟨b,o,none⟩) (hA.ne_row (g3 i u l p q).1 h2) x,(g3 i u l p q).2⟩⟩,h.new,Fr.setNew hb h.fr o x⟩
theorem lens_app (a b : List (List (Int × Int))) : lensOf (a ++ b) = lensOf a + lensOf b:=by
 induction a with
 | nil=>simp [lensOf]
 | cons x r ih=>simp [lensOf,ih]; omega
theorem spanLists_take {spans noted : List (Int × Int)} {k : Nat} {x : Int × Int} (h : spans[k]? = some x) : spanLists (spans.take (k + 1)) noted = spanLists (spans.take k) noted ++ [noted.filter (inSpan x)]:=by
 unfold spanLists;rw [List.take_add_one,h,List.map_append]; rfl
theorem answerOfScan_calls (w : World) (a : Option Addr) (c : Nat) (spans : List (Int × Int)) (h16 : spans.length<=16) (ha : PairsAt w a spans) (b : Option Addr) (d : Nat) (noted : List (Int × Int)) (hn : noted.length<=2 ^ 40) (hb : PairsAt w b noted) (st : Int) :
  Calls Tryz.prog 116 #[.slice a spans.length c,.slice b noted.length d,.int .i64 st] w fun r w'=>∃ va vn vc,r = .returned (ansV (answerOf spans noted st) (.slice va vn vc))/\OwnLists w w' (.slice va vn vc) (answerOf spans noted st).spans:=by
 obtain ⟨iP,hiP,hzP,hsP,hbP⟩:=info_parts Tryz.infoPs;have HA:=(mkH (PairsAt w a spans) <|ha);have HB:=(mkH (PairsAt w b noted) <|hb);have HLn : Hid (∀ k,lensOf (spanLists (spans.take k) noted)<=16 * 2 ^ 40):=by
  intro k;have key : ∀ l : List (Int × Int),lensOf (spanLists l noted)<=l.length * 2 ^ 40:=by
   intro l
   induction l with
   | nil=>simp [spanLists,lensOf]
   | cons x r ih =>
    have h1 : (noted.filter (inSpan x)).length<=2 ^ 40:=Nat.le_trans (List.length_filter_le _ _) hn;have h2 : lensOf (spanLists (x :: r) noted) = (noted.filter (inSpan x)).length + lensOf (spanLists r noted):=rfl;rw [h2,List.length_cons,Nat.add_mul];omega
  exact Nat.le_trans (key _) (Nat.mul_le_mul_right _ (by rw [List.length_take]; omega))
 clear ha hb
 go_enter Tryz.func116,Tryz.ntmps116
 go_wp2
 go_loopw [8,15] (fun cnt i wr=>∃ k : Nat,k<=spans.length/\i = .int .i64 k/\cnt = .int .i64 (lensOf (spanLists (spans.take k) noted))/\∃ va vn vc,Hid (OwnLists w wr (.slice va vn vc) (spanLists (spans.take k) noted))/\Hid (At wr (w.heap.size + 1) [.int .i64 0,.bool false,.int .i64 0,.int .i64 st,.slice va vn vc] 69)/\Hid (At wr w.heap.size [.int .i64 0,.bool false,.int .i64 0,.int .i64 0,.slice none 0 0] 69)) (fun _ i _=>spans.length - (intOf i).toNat)
 case atStart =>
  refine ⟨0,Nat.zero_le _,rfl,rfl,none,0,0,?_,?_,?_⟩
  ·exact ⟨fun _=>rfl,⟨[],rfl,⟨by simp [spanLists],.inl ⟨rfl,rfl⟩⟩,by intro i u l hu; simp at hu⟩,by intro k hk; simp [Value.ownBlock] at hk,((Fr.refl _ _).alloc _).alloc _⟩
  ·exact At.newAt (c:=[.int .i64 0,.bool false,.int .i64 0,.int .i64 st,.slice none 0 0]) (by simp) 69
  ·exact (At.new w [.int .i64 0,.bool false,.int .i64 0,.int .i64 0,.slice none 0 0] 69).alloc _
 case round =>
  obtain ⟨k,hk,rfl,rfl,va,vn,vc,HO,HX,HY⟩:=hrel;have hxc:=HX.out.cell;have hyc:=HY.out.cell;by_cases hlt : k < spans.length
  ·have hx : Hid (spans[k]? = some spans[k]):=List.getElem?_eq_getElem hlt;generalize spans[k] = x at hx;obtain ⟨g,rfl,c0,c1⟩:=(HA.out.calm HO.out.fr) k x hx.out;have HN:=(show Hid _ from spanLists_take (noted:=noted) hx.out);have HLk:=(show Hid _ from HLn.out k);clear hyc;go_wp2_with fail;refine (pairsIn_calls wr x b d noted hn (HB.out.calm HO.out.fr)).mono ?_;rintro r w1 ⟨u,rfl,hO⟩;obtain ⟨ua,uc,rfl⟩:=ownsShape hO.row;have HO1:=(mkH (OwnLists w w1 _ _) <|HO.out.calm hO.fr);have HU:=(mkH (OwnPairs wr w1 _ _) <|hO);have HX1:=(mkH (At w1 (w.heap.size + 1) _ _) <|hO.fr.at HX.out (fun h=>h));have HY1:=(mkH (At w1 w.heap.size _ _) <|hO.fr.at HY.out (fun h=>h));have HSW:=(mkH (w.heap.size<=wr.heap.size) <|HO.out.fr.size);have hxc:=HX1.out.cell;have hxz:=HX1.out.frozen;have hxl:=HX1.out.lt;have HFL:=(mkH ((noted.filter (inSpan x)).length<=2 ^ 40) <|Nat.le_trans (List.length_filter_le _ _) hn);obtain ⟨ins,hi1,hi2,hi3⟩:=HO1.out.top;have HT:=(mkH (w1.ownsRow 0 47 1 (.slice va vn vc) (spanLists (spans.take k) noted).length ins) <|hi2);have HI:=(mkH (ins.length = (spanLists (spans.take k) noted).length/\_) <|⟨hi1,hi3⟩);have HLL:=(mkH ((spanLists (spans.take k) noted).length<=16) <|by show _<=_; unfold spanLists; rw [List.length_map,List.length_take]; omega);clear hO HO HX HY c0 c1 hi1 hi2 hi3;have hlf:=HFL.out;have hlk:=HLk.out;go_wp2_with (at_builtin; refine wpList_push _ rfl _ _ 67 rfl 0 47 iP _ 1 24 Tryz.underlying67 hiP hzP hsP hbP rfl (by decide) _ _ _ rfl (ownsRow_alloc HT.out _) w1.heap.size [.slice ua (noted.filter (inSpan x)).length uc] rfl rfl 47 (At.newAt (by simp) _ _) (by simp [Value.oneCell']) (by have:=HLL.out; unfold maxLen; omega) (by have:=HLL.out; omega) (by simp) ?_);intro g' cap w3 hown hgr hge;have HO3:=(mkH (OwnLists w w3 (.slice (some ⟨g',0,none⟩) ((spanLists (spans.take k) noted).length + 1) cap) (spanLists (spans.take k) noted ++ [noted.filter (inSpan x)])) <|HO1.out.push HI.out.1 HT.out HI.out.2 HU.out.row (fun q hq=>Nat.le_trans HSW.out (HU.out.new q hq)) rfl hown hgr (by rcases hge with h | h; exact .inl h; exact .inr (by simpa using h)));have hFg : Fr (fun j=>(Value.slice va vn vc).ownBlock = some j) w1 w3:=Fr.grown (Fr.alloc (Fr.refl _ _) _) hgr (fun j hj=>.inl hj);have HX3:=(mkH (At w3 (w.heap.size + 1) _ _) <|hFg.at HX1.out (HX1.out.ne_row HT.out (by decide)));have HY3:=(mkH (At w3 w.heap.size _ _) <|hFg.at HY1.out (HY1.out.ne_row HT.out (by decide)));have hxc:=HX3.out.cell;have hxz:=HX3.out.frozen;clear hown hgr hge hFg HO1 HU HX1 HY1 HT HI hxl;go_wp2
   go_roundw
   case rel =>
    refine ⟨k + 1,by omega,by go_num,?_,some ⟨g',0,none⟩,_,cap,by show OwnLists _ _ _ _; rw [HN.out]; exact HO3.out.setOther HX3.out (by decide) (by decide) (by omega) 4 _,HX3.out.set 4 _,HY3.out.setOther _ (by show w.heap.size≠w.heap.size + 1; omega) _⟩;rw [HN.out,lens_app];simp [lensOf]
   case measure=>simp [intOf]; omega
  ·have hke : k = spans.length:=by omega
   have HE : Hid (spanLists (spans.take k) noted = spanLists spans noted):=by show _ = _; rw [hke,List.take_length]
   rw [HE.out];have HO':=(mkH (OwnLists w wr (.slice va vn vc) (spanLists spans noted)) <|by rw [<- HE.out]; exact HO.out);have hlk:=HLn.out spans.length;rw [List.take_length] at hlk;have hyz:=HY.out.frozen;have hyl:=HY.out.lt;clear hke HO;generalize hL : lensOf (spanLists spans noted) = n at hlk ⊢;have HL:=(mkH (lensOf (spanLists spans noted) = n) <|hL);clear hL;by_cases h64 : 64 < n
   ·have HAn : Hid (answerOf spans noted st = { err:=9 }):=by show _ = _; unfold answerOf; rw [HL.out,if_pos h64]
    have f0:=(((((HY.out.set 0 (.int .i64 9)).set 1 (.bool false)).set 2 (.int .i64 0)).set 3 (.int .i64 0)).set 4 (.slice none 0 0)).cell;have HF:=(mkH (Fr (fun _=>False) w _) <|Fr.setNew (Nat.le_refl _) (Fr.setNew (Nat.le_refl _) (Fr.setNew (Nat.le_refl _) (Fr.setNew (Nat.le_refl _) (Fr.setNew (Nat.le_refl _) HO'.out.fr 0 (.int .i64 9)) 1 (.bool false)) 2 (.int .i64 0)) 3 (.int .i64 0)) 4 (.slice none 0 0));go_wp2;rw [HAn.out];exact bodyPost_ret (v:=ansV { err:=9 } (.slice none 0 0)) (by simp [results,Tryz.results116,go_sem,ansV,f0]) rfl ⟨none,0,0,rfl,fun _=>rfl,⟨[],rfl,⟨by simp,.inl ⟨rfl,rfl⟩⟩,by intro i u l hu; simp at hu⟩,by intro k hk; simp [Value.ownBlock] at hk,HF.out⟩
   ·have HAn : Hid (answerOf spans noted st = { stamp:=st,spans:=spanLists spans noted }):=by show _ = _; unfold answerOf; rw [HL.out,if_neg h64]
    have hA0:=HY.out.set 0 (.int .i64 0);have hA1:=hA0.set 1 (.bool false);have hA2:=hA1.set 2 (.int .i64 0);have hA3:=hA2.set 3 (.int .i64 st);have f0:=(hA3.set 4 (.slice va vn vc)).cell;have HZ:=(mkH (OwnLists w _ _ _) <|((((HO'.out.setOther HY.out (by decide) (by decide) (Nat.le_refl _) 0 (.int .i64 0)).setOther hA0 (by decide) (by decide) (Nat.le_refl _) 1 (.bool false)).setOther hA1 (by decide) (by decide) (Nat.le_refl _) 2 (.int .i64 0)).setOther hA2 (by decide) (by decide) (Nat.le_refl _) 3 (.int .i64 st)).setOther hA3 (by decide) (by decide) (Nat.le_refl _) 4 (.slice va vn vc));clear hA0 hA1 hA2 hA3;go_wp2;rw [HAn.out];exact bodyPost_ret (v:=ansV { stamp:=st,spans:=spanLists spans noted } (.slice va vn vc)) (by simp [results,Tryz.results116,go_sem,ansV,f0]) rfl ⟨va,vn,vc,rfl,HZ.out⟩
end
end Go.Proofs.YtfccelbmacjifabGreat
