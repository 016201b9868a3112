import Derived.Test.YtfccelbmacjifabGreatP0
import Derived.Test.YtfccelbmacjifabGreatP12
import Derived.Test.YtfccelbmacjifabGreatP16
set_option linter.unusedSimpArgs false
set_option maxRecDepth 100000
set_option maxHeartbeats 4000000
namespace Go.Proofs.YtfccelbmacjifabGreat
section
open Go.RowKit
section
variable {w : World} {l : MLay} {M : PMem}
theorem any_take {α : Type} {l : List α} {k : Nat} {x : α} (p : α->Bool) (h : l[k]? = some x) : (l.take (k + 1)).any p = ((l.take k).any p || p x):=by
 rw [List.take_add_one,h,List.any_append]; simp
theorem hasStamp_calls (h : MAt w l M) (n : Int) (s : Bool) (ab t : Int) :
  Calls Tryz.prog 108 #[.pointer (some ⟨l.m,0,none⟩),lnk n s,.int .i64 ab,.int .i64 t] w fun e w'=>e = .returned (.bool (M.es.any (stampAbove n s ab t)))/\Fr (fun _=>False) w w':=by
 have hs:=h.esmall;have HB:=(mkH (Boxed _ _ _ _ _ _ _) <|Boxed.new h n s);have hc:=HB.out.mem.hd.cell;clear h;unfold lnk
 go_enter Tryz.func108,Tryz.ntmps108
 go_wp2;clear hc
 go_loopw [16] (fun i wr=>∃ k : Nat,k<=M.es.length/\i = .int .i64 k/\Hid ((M.es.take k).any (stampAbove n s ab t) = false)/\Hid (Boxed w wr l M w.heap.size n s)) (fun i _=>M.es.length - (intOf i).toNat)
 case atStart=>exact ⟨0,Nat.zero_le _,rfl,rfl,HB⟩
 case round =>
  clear HB;obtain ⟨k,hk,rfl,HE,HB⟩:=hrel;have hc:=HB.out.mem.hd.cell;have hb:=HB.out.box.cell;by_cases hlt : k < M.es.length
  ·have hx : Hid (M.es[k]? = some M.es[k]):=List.getElem?_eq_getElem hlt;generalize M.es[k] = x at hx;have c0:=MemAt.ent HB.out.mem hx.out (j:=0) (u:=.bool x.used) rfl;have c1:=MemAt.ent HB.out.mem hx.out (j:=1) (u:=.bool x.pending) rfl;have c2:=MemAt.ent HB.out.mem hx.out (j:=2) (u:=.int .i64 x.src) rfl;have c3:=MemAt.ent HB.out.mem hx.out (j:=3) (u:=.int .i64 (b2i x.side)) rfl;have c4:=MemAt.ent HB.out.mem hx.out (j:=4) (u:=.int .i64 x.dst) rfl;have c5:=MemAt.ent HB.out.mem hx.out (j:=5) (u:=.int .i64 x.stamp) rfl;rw [Nat.add_zero] at c0;have HN:=(show Hid _ from any_take (stampAbove n s ab t) hx.out);have HM:=(mkH (stampAbove n s ab t x = true->M.es.any (stampAbove n s ab t) = true) <|fun h=>List.any_eq_true.2 ⟨x,List.mem_of_getElem? hx.out,h⟩);have hlb:=HB.out.box.lt;have hlm:=HB.out.mem.hd.lt;go_wp2_with fail;refine (isStamped_calls x n s _).mono ?_;rintro e w1 ⟨rfl,hF⟩;have HB1:=(mkH (Boxed w w1 l M w.heap.size n s) <|HB.out.step (((Fr.refl _ _).alloc _).trans hF));have HX:=(mkH (At w1 wr.heap.size [.bool x.used,.bool x.pending,.int .i64 x.src,.int .i64 (b2i x.side),.int .i64 x.dst,.int .i64 x.stamp] 133) <|hF.at (At.new wr [.bool x.used,.bool x.pending,.int .i64 x.src,.int .i64 (b2i x.side),.int .i64 x.dst,.int .i64 x.stamp] _) (fun h=>h));have hxc:=HX.out.cell;clear hF HB hc hb c0 c1 c2 c3 c4 c5 hlb hlm;cases hst : isSt n s x
   ·go_wp2
    go_roundw
    case rel=>exact ⟨k + 1,by omega,by go_num,by show List.any _ _ = _; rw [HN.out,HE.out]; simp [stampAbove,hst],HB1⟩
    case measure=>simp [intOf]; omega
   ·by_cases h2 : ab < x.stamp
    ·by_cases h1 : x.stamp<=t
     ·go_wp2;go_ret;exact ⟨ret_bool (HM.out (by simp [stampAbove,hst,h1,h2])).symm,HB1.out.fr⟩
     ·go_wp2
      go_roundw
      case rel=>exact ⟨k + 1,by omega,by go_num,by show List.any _ _ = _; rw [HN.out,HE.out]; simp [stampAbove,hst]; omega,HB1⟩
      case measure=>simp [intOf]; omega
    ·go_wp2
     go_roundw
     case rel=>exact ⟨k + 1,by omega,by go_num,by show List.any _ _ = _; rw [HN.out,HE.out]; simp [stampAbove,hst]; omega,HB1⟩
     case measure=>simp [intOf]; omega
  ·have hke : k = M.es.length:=by omega
   have HF : Hid (M.es.any (stampAbove n s ab t) = false):=by
    have:=HE.out
    rw [hke,List.take_length] at this;exact this
   clear HE hke;go_wp2;go_ret;exact ⟨ret_bool HF.out.symm,HB.out.fr⟩
theorem dropTo_len (t : Int) (es : List PEntry) : ∀ k,(dropTo t es k).length = es.length
 | 0=>rfl
 | k + 1=>by
  rw [dropTo,dropOne];split
  ·split
   ·rw [List.length_set]; exact dropTo_len t es k
   ·exact dropTo_len t es k
  ·exact dropTo_len t es k
theorem Drop_calls (h : MAt w l M) (t : Int) :
  Calls Tryz.prog 88 #[.pointer (some ⟨l.m,0,none⟩),.int .i64 t] w fun e w'=>e = .returned (.tuple #[])/\MAt w' l (M.drop t)/\MFr l w w':=by
 have hes:=h.esmall;have hc:=h.hd.cell;have H0:=(mkH (MAt w l { M with es:=dropTo t M.es 0 }) <|h);have hE : Hid (M.drop t = { M with es:=dropTo t M.es M.es.length }):=rfl;clear h
 go_enter Tryz.func88,Tryz.ntmps88
 go_wp2;clear hc
 go_loopw [11] (fun i wr=>∃ k : Nat,k<=M.es.length/\i = .int .i64 k/\Hid (MAt wr l { M with es:=dropTo t M.es k })/\Hid (MFr l w wr)) (fun i _=>M.es.length - (intOf i).toNat)
 case atStart=>exact ⟨0,Nat.zero_le _,rfl,H0,.of0 (Fr.refl _ _)⟩
 case round =>
  clear H0;obtain ⟨k,hk,rfl,H,HF⟩:=hrel;have hc:=H.out.hd.cell;have hDL:=dropTo_len t M.es k;rw [show (({ M with es:=dropTo t M.es k } : PMem).es).length = M.es.length from hDL] at hc;by_cases hlt : k < M.es.length
  ·have hx : Hid ((dropTo t M.es k)[k]? = some ((dropTo t M.es k)[k]'(by rw [hDL]; exact hlt))):=List.getElem?_eq_getElem _;generalize (dropTo t M.es k)[k]'(by rw [hDL]; exact hlt) = x at hx;have HD : Hid (dropTo t M.es (k + 1) = if isSt x.src x.side x && (dropTo t M.es k).any (stampAbove x.src x.side x.stamp t) then (dropTo t M.es k).set k PEntry.zero else dropTo t M.es k):=by
    show _ = _;rw [dropTo,dropOne,hx.out]
   generalize hes' : dropTo t M.es k = es' at H hx HD hDL;have c0:=MemAt.ent H.out hx.out (j:=0) (u:=.bool x.used) rfl;have c1:=MemAt.ent H.out hx.out (j:=1) (u:=.bool x.pending) rfl;have c2:=MemAt.ent H.out hx.out (j:=2) (u:=.int .i64 x.src) rfl;have c3:=MemAt.ent H.out hx.out (j:=3) (u:=.int .i64 (b2i x.side)) rfl;have c4:=MemAt.ent H.out hx.out (j:=4) (u:=.int .i64 x.dst) rfl;have c5:=MemAt.ent H.out hx.out (j:=5) (u:=.int .i64 x.stamp) rfl;rw [Nat.add_zero] at c0;have hlm:=H.out.hd.lt;clear hes' hDL;go_wp2_with fail;refine (isStamped_calls x x.src x.side _).mono ?_;rintro e w1 ⟨rfl,hF⟩;have H1:=(mkH (MAt w1 l { M with es:=es' }) <|MAt.same0 H.out (((Fr.refl _ _).alloc _).trans hF));have HF1:=(mkH (MFr l w w1) <|Fr.trans HF.out (MFr.of0 (((Fr.refl _ _).alloc _).trans hF)));have HX:=(mkH (At w1 wr.heap.size [.bool x.used,.bool x.pending,.int .i64 x.src,.int .i64 (b2i x.side),.int .i64 x.dst,.int .i64 x.stamp] 133) <|hF.at (At.new wr [.bool x.used,.bool x.pending,.int .i64 x.src,.int .i64 (b2i x.side),.int .i64 x.dst,.int .i64 x.stamp] _) (fun h=>h));have hxc:=HX.out.cell;clear hF H HF hc c0 c1 c2 c3 c4 c5 hlm;cases hst : isSt x.src x.side x
   ·go_wp2
    go_roundw
    case rel=>exact ⟨k + 1,by omega,by go_num,by show MAt _ _ _; rw [HD.out,hst]; exact H1.out,HF1⟩
    case measure=>simp [intOf]; omega
   ·go_wp2_with fail;refine (hasStamp_calls H1.out x.src x.side x.stamp t).mono ?_;rintro e w2 ⟨rfl,hF⟩;have H2:=(mkH (MAt w2 l { M with es:=es' }) <|MAt.same0 H1.out hF);have HF2:=(mkH (MFr l w w2) <|Fr.trans HF1.out (MFr.of0 hF));clear hF hxc HX H1 HF1;cases hsa : es'.any (stampAbove x.src x.side x.stamp t)
    ·go_wp2
     go_roundw
     case rel=>exact ⟨k + 1,by omega,by go_num,by show MAt _ _ _; rw [HD.out,hst,hsa]; exact H2.out,HF2⟩
     case measure=>simp [intOf]; omega
    ·have hc:=H2.out.hd.cell;have hEL:=(mkH (es'.length = M.es.length) <|by
      have:=H2.out.ents
      have hd:=dropTo_len t M.es (k + 1);rw [HD.out,hst,hsa] at hd;show _ = _; simpa using hd)
     rw [show (({ M with es:=es' } : PMem).es).length = M.es.length from hEL.out] at hc;have c0:=MemAt.ent H2.out hx.out (j:=0) (u:=.bool x.used) rfl;have c1:=MemAt.ent H2.out hx.out (j:=1) (u:=.bool x.pending) rfl;have c2:=MemAt.ent H2.out hx.out (j:=2) (u:=.int .i64 x.src) rfl;have c3:=MemAt.ent H2.out hx.out (j:=3) (u:=.int .i64 (b2i x.side)) rfl;have c4:=MemAt.ent H2.out hx.out (j:=4) (u:=.int .i64 x.dst) rfl;have c5:=MemAt.ent H2.out hx.out (j:=5) (u:=.int .i64 x.stamp) rfl;rw [Nat.add_zero] at c0;have hf:=ownsRow_frozen H2.out.ents;have hset:=MemAt.putEnt H2.out hx.out PEntry.zero;have HS:=(mkH (MAt _ l { M with es:=dropTo t M.es (k + 1) }) <|by rw [HD.out,hst,hsa]; exact hset);clear hset;go_wp2
     go_roundw
     case rel =>
      refine ⟨k + 1,by omega,by go_num,HS,?_⟩;refine Fr.trans HF2.out ?_
      repeat (with_reducible first | refine Fr.setIn (.inr rfl) ?_ _ _ | refine Fr.drewN ?_ _ | refine Fr.drew ?_ | exact Fr.refl _ _)
     case measure=>simp [intOf]; omega
  ·have hk' : k = M.es.length:=by omega
   subst hk';go_wp2
   go_end0
   exact ⟨rfl,by rw [hE.out]; exact H.out,HF.out⟩
theorem retired_app : ∀ (l : List PNode) (x : PNode) (i : Nat),retiredFrom (l ++ [x]) i = retiredFrom l i ++ (if x.retired then [i + l.length] else [])
 | [],x,i=>by simp [retiredFrom]
 | y :: r,x,i=>by
  rw [List.cons_append,retiredFrom,retiredFrom,retired_app r x (i + 1)];have : i + 1 + r.length = i + (y :: r).length:=by simp; omega
  rw [this];split <;> simp
theorem retired_take {l : List PNode} {k : Nat} {x : PNode} (h : l[k]? = some x) : retiredFrom (l.take (k + 1)) 0 = retiredFrom (l.take k) 0 ++ (if x.retired then [k] else []):=by
 have hk:=(List.getElem?_eq_some_iff.1 h).1;rw [List.take_add_one,h,Option.toList_some,retired_app,List.length_take,Nat.min_eq_left (Nat.le_of_lt hk),Nat.zero_add]
theorem retired_len : ∀ (l : List PNode) (i : Nat),(retiredFrom l i).length<=l.length
 | [],_=>Nat.le_refl _
 | x :: r,i=>by
  rw [retiredFrom]
  have:=retired_len r (i + 1)
  split <;> simp <;> omega
structure OwnNats (w0 w : World) (v : Value) (ps : List Nat) : Prop where
 row : w.ownsRow 0 3 1 v ps.length (natCells ps)
 new : ∀ k,v.ownBlock = some k->w0.heap.size<=k
 fr : Fr (fun _=>False) w0 w
theorem OwnNats.shape {w0 w : World} {v : Value} {ps : List Nat} (h : OwnNats w0 w v ps) : ∃ a c,v = .slice a ps.length c:=by
 rcases h.row.2 with ⟨h1,h2⟩ | ⟨g,cap,_,h,_⟩
 ·exact ⟨none,0,by rw [h1,h2]⟩
 ·exact ⟨_,cap,h⟩
theorem RetiredNodes_calls (h : MAt w l M) :
  Calls Tryz.prog 87 #[.pointer (some ⟨l.m,0,none⟩)] w fun e w'=>∃ a n c,e = .returned (.slice a n c)/\OwnNats w w' (.slice a n c) (retiredFrom M.ns 0):=by
 obtain ⟨iI,hiI,hzI,hsI,hbI⟩:=info_parts Tryz.infoIntZ;have hs:=h.nsmall;have hc:=h.hd.cell;have H:=(mkH (MAt w l M) <|h);clear h
 go_enter Tryz.func87,Tryz.ntmps87
 go_wp2;clear hc
 go_loopw [3,10] (fun v i wr=>∃ k : Nat,k<=M.ns.length/\i = .int .i64 k/\Hid (OwnNats w wr v (retiredFrom (M.ns.take k) 0))) (fun _ i _=>M.ns.length - (intOf i).toNat)
 case atStart=>exact ⟨0,Nat.zero_le _,rfl,⟨⟨by simp [retiredFrom,natCells],.inl ⟨rfl,rfl⟩⟩,by intro k hk; simp [Value.ownBlock] at hk,Fr.refl _ _⟩⟩
 case round =>
  obtain ⟨k,hk,rfl,HO⟩:=hrel;have HMr:=(mkH (MAt wr l M) <|MAt.same0 H.out HO.out.fr);have hc:=HMr.out.hd.cell;by_cases hlt : k < M.ns.length
  ·have hx : Hid (M.ns[k]? = some M.ns[k]):=List.getElem?_eq_getElem hlt;generalize M.ns[k] = x at hx;have c3:=MemAt.node HMr.out hx.out (j:=3) (u:=.bool x.retired) rfl;have HT:=(show Hid _ from retired_take hx.out);cases hr : x.retired
   ·rw [hr] at c3;go_wp2
    go_roundw
    case rel=>exact ⟨k + 1,by omega,by go_num,by show OwnNats _ _ _ _; rw [HT.out,hr]; simpa using HO.out⟩
    case measure=>simp [intOf]; omega
   ·rw [hr] at c3;have hrl:=retired_len (M.ns.take k) 0;rw [List.length_take] at hrl;obtain ⟨L,hL⟩ : ∃ L,L = retiredFrom (M.ns.take k) 0:=⟨_,rfl⟩;rw [<- hL] at HO HT hrl;have HRL:=(mkH (L.length<=100) <|by show _<=_; omega);clear hL hrl;have hLn:=HRL.out;go_wp2_with (at_builtin; refine wpList_push _ rfl _ _ 39 rfl 0 3 iI _ 1 8 Tryz.underlying39 hiI hzI hsI hbI rfl (by decide) _ L.length (natCells L) rfl (ownsRow_alloc HO.out.row _) wr.heap.size [.int .i64 k] rfl rfl 3 (At.newAt (by simp) _ _) (by simp [Value.oneCell']) (by unfold maxLen; omega) (by omega) (by simp) ?_);intro g cap w3 hown hgr hge;have HO3 : Hid (OwnNats w w3 (.slice (some ⟨g,0,none⟩) (L.length + 1) cap) (retiredFrom (M.ns.take (k + 1)) 0)):=by
     show OwnNats _ _ _ _;rw [HT.out,hr];refine ⟨by simpa [natCells] using hown,?_,Fr.grown (HO.out.fr.alloc _) hgr (fun k hk=>.inr (HO.out.new k hk))⟩;intro j hj;simp [Value.ownBlock] at hj;subst hj;rcases hge with h | h
     ·exact HO.out.new _ h
     ·have:=HO.out.fr.size; first | omega | (simp at h; omega)
    clear hown hgr hge HO hc c3;go_wp2
    go_roundw
    case rel=>exact ⟨k + 1,by omega,by go_num,HO3⟩
    case measure=>simp [intOf]; omega
  ·have hke : k = M.ns.length:=by omega
   subst hke;rw [List.take_length] at HO;obtain ⟨a,c,hv⟩:=HO.out.shape;subst hv;go_wp2;go_ret;exact ⟨a,_,c,rfl,HO.out⟩
end
end
section
open Go.RowKit
section
variable {own : Own} {z : Nat} {w : World} {L : ZLay} {P : PSt}
theorem ZGoes.cells {w1 w2 : World} {P1 : PSt} (h : ZGoes own z w L P1 w1) {i : Nat} {l : WLay} {t1 t2 : PThread} (hl : L.wks[i]? = some l) (ht : P1.ts[i]? = some t1) (hf : Fr (fun k=>k = l.b) w1 w2)
  (hA : ∀ l1 : WLay,l1.b = l.b->At w1 l.b (t1.cells i l1) 118->At w2 l.b (t2.cells i l1) 118)
  (e1 : t2.work.spans = t1.work.spans) (e2 : t2.work.made = t1.work.made) (e3 : t2.work.links = t1.work.links) (e4 : t2.work.noted = t1.work.noted) (e6 : t2.work.ans.spans = t1.work.ans.spans) (e7 : t2.last.spans = t1.last.spans) :
  ZGoes own z w L (P1.setT i t2) w2:=by
 obtain ⟨own1,L1,hZ,hE,hF,h1,h2,h3⟩:=h;obtain ⟨l1,hl1,hb⟩:=wks_get h3 hl;have hAt:=(hZ.wk i l1 t1 hl1 ht).at_;rw [hb] at hAt
 have:=hZ.wkCells hl1 ht (t':=t2) (by rw [hb]; exact hf) (by rw [hb]; exact hA l1 hb hAt) e1 e2 e3 e4 e6 e7
 exact ZGoes.trans hE hF h1 h2 h3 (ZGoes.here this)
theorem ZGoes.at_ {w1 : World} {P1 : PSt} (h : ZGoes own z w L P1 w1) {i : Nat} {l : WLay} {t1 : PThread} (hl : L.wks[i]? = some l) (ht : P1.ts[i]? = some t1) : ∃ l1 : WLay,l1.b = l.b/\At w1 l.b (t1.cells i l1) 118:=by
 obtain ⟨own1,L1,hZ,hE,hF,h1,h2,h3⟩:=h;obtain ⟨l1,hl1,hb⟩:=wks_get h3 hl;have hAt:=(hZ.wk i l1 t1 hl1 ht).at_;rw [hb] at hAt;exact ⟨l1,hb,hAt⟩
theorem prepare_calls (h : ZAt own z w L P) (hk : P.kind = 0\/P.kind = 1) {i : Nat} {l : WLay} {t : PThread} (hl : L.wks[i]? = some l) (ht : P.ts[i]? = some t) (hmade : t.work.made.length<=2) :
  Calls Tryz.prog 99 #[.pointer (some ⟨L.s,0,none⟩),.pointer (some ⟨l.b,0,none⟩)] w fun e w'=>e = .returned (.tuple #[])/\ZGoes own z w L (P.prepare i t.work) w':=by
 obtain ⟨ha,haz,hal,hs,hsz,hsl,n1,n2⟩:=h.view hl ht;simp only [PThread.cells,PSt.head] at ha hs;have H:=(mkH (ZAt own z w L P) <|h);have HL:=(mkH (L.wks[i]? = some l) <|hl);have Ht:=(mkH (P.ts[i]? = some t) <|ht);clear h hl ht haz hsz
 go_enter Tryz.func99,Tryz.ntmps99
 go_wp2_with fail;refine (needs_calls H.out t.work.kind).mono ?_;rintro e w' ⟨rfl,rfl⟩;go_wp2_with fail;refine (MRoom_calls H.out.mem).mono ?_;rintro e w' ⟨rfl,rfl⟩;by_cases hno : P.mem.room.1 < (P.needs t.work.kind).1\/P.mem.room.2 < (P.needs t.work.kind).2
 ·have hE : Hid (P.prepare i t.work = P.setW i (t.work.settle { err:=7 })):=by show _ = _; simp only [PSt.prepare,if_pos hno]
  have fin : ∀ w1,ZGoes own z w' L (P.setT i { t with work:=t.work.settle { err:=7 } }) w1->ZGoes own z w' L (P.prepare i t.work) w1:=by
   intro w1 h; rw [hE.out,setT_work Ht.out]; exact h
  have FIN:=(mkH (∀ w1,_->_) <|fin);clear fin;by_cases h1 : P.mem.room.1 < (P.needs t.work.kind).1
  ·clear hno;go_wp2_with fail;refine (settle_calls H.out HL.out Ht.out { err:=7 } rfl).mono ?_;rintro e w1 ⟨rfl,hG⟩;have HG:=(mkH (ZGoes _ _ _ _ _ _) <|hG);clear hG ha hs;go_wp2;refine bodyPost_ret (results_none rfl _ _ _) rfl ?_;exact ⟨rfl,FIN.out _ HG.out⟩
  ·have h2 : P.mem.room.2 < (P.needs t.work.kind).2:=by rcases hno with h | h; exact absurd h h1; exact h
   clear hno;go_wp2_with fail;refine (settle_calls H.out HL.out Ht.out { err:=7 } rfl).mono ?_;rintro e w1 ⟨rfl,hG⟩;have HG:=(mkH (ZGoes _ _ _ _ _ _) <|hG);clear hG ha hs;go_wp2;refine bodyPost_ret (results_none rfl _ _ _) rfl ?_;exact ⟨rfl,FIN.out _ HG.out⟩
 ·have h1 : ¬ P.mem.room.1 < (P.needs t.work.kind).1:=fun h=>hno (.inl h)
  have h2 : ¬ P.mem.room.2 < (P.needs t.work.kind).2:=fun h=>hno (.inr h)
  cases hkd : (t.work.kind == 1)
  ·have hkd' : ¬ t.work.kind = 1:=by simpa using hkd
   have hE : Hid (P.prepare i t.work = (P.setM (P.prepareRemove t.work).1).setW i { (P.prepareRemove t.work).2 with next:=8 }):=by show _ = _; simp only [PSt.prepare,if_neg hno,if_neg hkd']
   clear hno hkd';go_wp2_with fail;refine (prepareRemove_calls H.out hk HL.out Ht.out).mono ?_;rintro e w1 ⟨rfl,hZ,hF⟩;have HG:=(mkH (ZGoes own z w' L _ w1) <|ZGoes.here ⟨hZ,hF⟩);have Ht1:=(mkH (_ = some _) <|setT_get (P.setM (P.prepareRemove t.work).1) Ht.out { t with work:=(P.prepareRemove t.work).2 });clear hZ hF ha hs;obtain ⟨l1,hb1,hA1⟩:=HG.out.at_ HL.out Ht1.out;have ha:=hA1.cell;have haz:=hA1.frozen;simp only [PThread.cells] at ha;clear hA1;go_wp2
   go_end0
   have R:=HG.out.cells HL.out Ht1.out (t2:={ t with work:={ (P.prepareRemove t.work).2 with next:=8 } }) ((Fr.refl _ _).set1 7 (.int .i64 8)) (fun l1 _ h=>h.set 7 (.int .i64 8)) rfl rfl rfl rfl rfl rfl;rw [hE.out,setT_work (P:=P.setM (P.prepareRemove t.work).1) Ht.out];rw [setT_setT] at R;exact ⟨rfl,R⟩
  ·have hkd' : t.work.kind = 1:=by simpa using hkd
   have hE : Hid (P.prepare i t.work = (P.setM (P.prepareInsert t.work).1).setW i { (P.prepareInsert t.work).2 with next:=8 }):=by show _ = _; simp only [PSt.prepare,if_neg hno,if_pos hkd']
   clear hno hkd';go_wp2_with fail;refine (prepareInsert_calls H.out hk HL.out Ht.out hmade).mono ?_;rintro e w1 ⟨rfl,hG⟩;have HG:=(mkH (ZGoes own z w' L _ w1) <|hG);have Ht1:=(mkH (_ = some _) <|setT_get (P.setM (P.prepareInsert t.work).1) Ht.out { t with work:=(P.prepareInsert t.work).2 });clear hG ha hs;obtain ⟨l1,hb1,hA1⟩:=HG.out.at_ HL.out Ht1.out;have ha:=hA1.cell;have haz:=hA1.frozen;simp only [PThread.cells] at ha;clear hA1;go_wp2
   go_end0
   have R:=HG.out.cells HL.out Ht1.out (t2:={ t with work:={ (P.prepareInsert t.work).2 with next:=8 } }) ((Fr.refl _ _).set1 7 (.int .i64 8)) (fun l1 _ h=>h.set 7 (.int .i64 8)) rfl rfl rfl rfl rfl rfl;rw [hE.out,setT_work (P:=P.setM (P.prepareInsert t.work).1) Ht.out];rw [setT_setT] at R;exact ⟨rfl,R⟩
theorem nodesTakenOut_list (h : ZAt own z w L P) (hk : P.kind = 0) {i : Nat} {l : WLay} {t : PThread} (hl : L.wks[i]? = some l) (ht : P.ts[i]? = some t) :
  Calls Tryz.prog 128 #[.pointer (some ⟨L.s,0,none⟩),.pointer (some ⟨l.b,0,none⟩)] w fun e w'=>∃ b,e = .returned (.slice (some ⟨b,0,none⟩) 1 1)/\At w' b [.int .i64 t.work.ahead] 3/\Fr (fun _=>False) w w':=by
 obtain ⟨ha,haz,hal,hs,hsz,hsl,n1,n2⟩:=h.view hl ht;simp only [PThread.cells,PSt.head,hk] at ha hs;clear h hl ht haz hsz
 go_enter Tryz.func128,Tryz.ntmps128
 go_wp2;go_ret;exact ⟨w.heap.size,rfl,At.new w [.int .i64 t.work.ahead] _,(Fr.refl _ _).alloc _⟩
theorem nodesTakenOut_tree (h : ZAt own z w L P) (hk : P.kind = 1) {i : Nat} {l : WLay} {t : PThread} (hl : L.wks[i]? = some l) (ht : P.ts[i]? = some t) :
  Calls Tryz.prog 128 #[.pointer (some ⟨L.s,0,none⟩),.pointer (some ⟨l.b,0,none⟩)] w fun e w'=>∃ b,e = .returned (.slice (some ⟨b,0,none⟩) 2 2)/\At w' b [.int .i64 t.work.ahead,.int .i64 t.work.stand] 3/\Fr (fun _=>False) w w':=by
 obtain ⟨ha,haz,hal,hs,hsz,hsl,n1,n2⟩:=h.view hl ht;simp only [PThread.cells,PSt.head,hk] at ha hs;clear h hl ht haz hsz
 go_enter Tryz.func128,Tryz.ntmps128
 go_wp2_with fail;go_region;go_wp2;go_ret;refine ⟨_,rfl,?_,?_⟩
 ·exact At.drewN (At.new _ [.int .i64 t.work.ahead,.int .i64 t.work.stand] _) 1
 ·repeat (with_reducible first | refine Fr.alloc ?_ _ | refine Fr.drewN ?_ _ | refine Fr.drew ?_ | exact Fr.refl _ _)
end
end
section
open Go.RowKit
theorem frees_append (M : PMem) : ∀ a b : List Int,M.frees (a ++ b) = (M.frees a).frees b
 | [],_=>rfl
 | n :: r,b=>by simp only [List.cons_append,PMem.frees]; exact frees_append _ r b
theorem stampsNew_append (M : PMem) (st : Int) : ∀ a b : List Int,M.stampsNew st (a ++ b) = (M.stampsNew st a).stampsNew st b
 | [],_=>rfl
 | n :: r,b=>by simp only [List.cons_append,PMem.stampsNew]; exact stampsNew_append _ st r b
theorem Row.shape {own : Own} {z : Nat} {w : World} {tag : Tag} {e : TypeId} {size : Nat} {v : Value} {n : Nat} {xs : List Value} (h : Row own z w tag e size v n xs) : ∃ a cap,v = .slice a n cap/\(n≠0->∃ g,a = some ⟨g,0,none⟩/\own g = ⟨z,tag⟩):=by
 rcases h.row.2 with ⟨h1,h2⟩ | ⟨g,cap,cur,h1,_⟩
 ·exact ⟨none,0,by rw [h1,h2],fun h=>absurd h2 h⟩
 ·exact ⟨some ⟨g,0,none⟩,cap,h1,fun _=>⟨g,rfl,h.tg g (by rw [h1]; rfl)⟩⟩
section
variable {own : Own} {z : Nat} {w : World} {L : ZLay} {P : PSt}
theorem ZAt.madeCell (h : ZAt own z w L P) {w' : World} (hf : MFr L.ml w w') {i : Nat} {l : WLay} {t : PThread} (hl : L.wks[i]? = some l) (ht : P.ts[i]? = some t) {g n cap : Nat} (hv : l.made = .slice (some ⟨g,0,none⟩) n cap) {k : Nat} {x : Int} (hx : t.work.made[k]? = some x) :
  w'.cell? ⟨g,k,none⟩ = some (.int .i64 x):=by
 have hT:=(h.wk i l t hl ht).made;have hn : ¬ (g = L.ml.nb\/g = L.ml.eb):=by
  have htg:=hT.tg g (by rw [hv]; rfl);rintro (e | e)
  ·rw [e,h.no] at htg; simp at htg
  ·rw [e,h.eo] at htg; simp at htg
 have hr:=Fr.owns hf hT.row (by intro j hj; rw [hv] at hj; simp [Value.ownBlock] at hj; subst hj; exact hn);have hnn : n = t.work.made.length:=by
  rcases hT.row.2 with ⟨h1,_⟩ | ⟨g',cap',cur,h1,_⟩
  ·rw [hv] at h1; cases h1
  ·rw [hv] at h1; simp at h1; exact h1.2.1
 subst hnn;rw [hv] at hr;exact ownsRow_cell hr (by simp [intCells,hx])
theorem undo_calls (h : ZAt own z w L P) {i : Nat} {l : WLay} {t : PThread} (hl : L.wks[i]? = some l) (ht : P.ts[i]? = some t) (hmade : t.work.made.length<=2) :
  Calls Tryz.prog 127 #[.pointer (some ⟨L.s,0,none⟩),.pointer (some ⟨l.b,0,none⟩)] w fun e w'=>e = .returned (.tuple #[]) /\
   ZAt own z w' L (P.setM ((P.mem.unpend t.work.tsrc t.work.tside).frees t.work.made))/\FrZ own z w w':=by
 have H:=(mkH (ZAt own z w L P) <|h);have HL:=(mkH (L.wks[i]? = some l) <|hl);have Ht:=(mkH (P.ts[i]? = some t) <|ht);obtain ⟨ma,mcap,hmv,hmg⟩:=((h.wk i l t hl ht).made).shape;have HMV:=(mkH (l.made = _) <|hmv);have HMG:=(mkH (t.work.made.length≠0->_) <|hmg);clear h hl ht hmg
 go_enter Tryz.func127,Tryz.ntmps127
 go_wp2_with fail;refine wp_region_one 9 L.ml (fun w'=>MAt w' L.ml (P.mem.unpend t.work.tsrc t.work.tside)/\MFr L.ml w w') (fun _ h=>h.2) (by kernel_rfl) (by kernel_rfl) (by kernel_rfl) (by kernel_rfl) (by decide) ?_;intro U W hU hW;have hau : ∀ u o,(W u).cell? ⟨L.s,o,none⟩ = (P.head L)[o]?:=fun u=>(H.out.memCells (hW u)).1
 have hlu : ∀ u o,(W u).cell? ⟨l.b,o,none⟩ = (t.cells i l)[o]?:=fun u=>(H.out.memCells (hW u)).2 i l t HL.out Ht.out
 simp only [PSt.head] at hau;simp only [PThread.cells] at hlu;clear hW
 repeat (refine mix_read rfl rfl ?_; go_big_quiet_step (fail); refine wpQuiet_nil ?_)
 refine mix_effC (.tuple #[]) rfl rfl rfl ?_ ?_
 ·intro w' hw';have hw0:=hw'.1 rfl;go_simp;refine (Unpend_calls (H.out.calm hw0).mem t.work.tsrc t.work.tside).mono ?_;rintro e w'' ⟨rfl,hM,hF⟩;exact ⟨rfl,hM,(MFr.of0 hw0).trans hF⟩
 go_simp;refine mix_nil ?_;intro w2 hM2 hF2;clear hau hlu;generalize hM0 : P.mem.unpend t.work.tsrc t.work.tside = M0 at hM2;have HM0:=(mkH (P.mem.unpend t.work.tsrc t.work.tside = M0) <|hM0);obtain ⟨hZ2,hZF⟩:=H.out.memSet hM2 hF2;have H2:=(mkH (ZAt own z w2 L (P.setM (M0.frees (t.work.made.take 0)))) <|hZ2);have HZF:=(mkH (FrZ own z w w2) <|hZF);clear hM2 hF2 hZ2 hZF H hM0;have ha:=(H2.out.wk i l t HL.out Ht.out).at_.cell;simp only [PThread.cells] at ha;rw [hmv] at ha;go_wp2_with fail;clear ha
 go_loopw [4,21] (fun _ j wr=>∃ k : Nat,k<=t.work.made.length/\j = .int .i64 k/\Hid (ZAt own z wr L (P.setM (M0.frees (t.work.made.take k))))/\Hid (FrZ own z w wr)) (fun _ j _=>t.work.made.length - (intOf j).toNat)
 case atStart=>exact ⟨0,Nat.zero_le _,rfl,H2,HZF⟩
 case round =>
  clear H2 HZF;obtain ⟨k,hk,rfl,H2,HZF⟩:=hrel;by_cases hlt : k < t.work.made.length
  ·obtain ⟨g,rfl,_⟩:=HMG.out (by omega);have hx : t.work.made[k]? = some t.work.made[k]:=List.getElem?_eq_getElem hlt;have hnext : t.work.made.take (k + 1) = t.work.made.take k ++ [t.work.made[k]]:=List.take_succ_eq_append_getElem hlt;generalize t.work.made[k] = x at hx hnext;have hE : Hid (M0.frees (t.work.made.take (k + 1)) = (M0.frees (t.work.made.take k)).free x):=by show _ = _; rw [hnext,frees_append]; rfl
   have HX:=(mkH (t.work.made[k]? = some x) <|hx);clear hx hnext;go_wp2_with fail;refine wp_region_one 12 L.ml (fun w'=>MAt w' L.ml ((M0.frees (t.work.made.take k)).free x)/\MFr L.ml wr w') (fun _ h=>h.2) (by kernel_rfl) (by kernel_rfl) (by kernel_rfl) (by kernel_rfl) (by decide) ?_;intro U W hU hW;have hau : ∀ u o,(W u).cell? ⟨L.s,o,none⟩ = ((P.setM (M0.frees (t.work.made.take k))).head L)[o]?:=fun u=>(H2.out.memCells (hW u)).1
   have hlu : ∀ u o,(W u).cell? ⟨l.b,o,none⟩ = (t.cells i l)[o]?:=fun u=>(H2.out.memCells (hW u)).2 i l t HL.out Ht.out
   have hgu : ∀ u,(W u).cell? ⟨g,k,none⟩ = some (.int .i64 x):=fun u=>H2.out.madeCell (hW u) HL.out Ht.out HMV.out HX.out
   simp only [PSt.head,PSt.setM] at hau;simp only [PThread.cells,hmv] at hlu;clear hW
   repeat (refine mix_read rfl rfl ?_; go_big_quiet_step (fail); refine wpQuiet_nil ?_)
   refine mix_effC (.tuple #[]) rfl rfl rfl ?_ ?_
   ·intro w' hw';have hw0:=hw'.1 rfl;go_simp;refine (Free_calls (H2.out.calm hw0).mem x).mono ?_;rintro e w'' ⟨rfl,hM,hF⟩;exact ⟨rfl,hM,(MFr.of0 hw0).trans hF⟩
   go_simp;refine mix_nil ?_;intro w3 hM3 hF3;clear hau hlu hgu;obtain ⟨hZ3,hZF3⟩:=H2.out.memSet hM3 hF3;have H3:=(mkH (ZAt own z w3 L (P.setM (M0.frees (t.work.made.take (k + 1))))) <|by rw [hE.out]; exact hZ3);have HZF3:=(mkH (FrZ own z w w3) <|FrZ.trans HZF.out (Ext.refl _ _) hZF3);clear hM3 hF3 hZ3 hZF3;go_wp2
   go_roundw
   case rel=>exact ⟨k + 1,by omega,by go_num,H3,HZF3⟩
   case measure=>simp [intOf]; omega
  ·have hk' : k = t.work.made.length:=by omega
   subst hk';have H3:=H2.out;rw [List.take_length] at H3;have H4:=(mkH (ZAt own z wr L _) <|H3);clear H3;go_wp2
   go_end0
   rw [HM0.out];exact ⟨rfl,H4.out,HZF.out⟩
end
end
section
open Go.RowKit
theorem wp_region_calmstore {Pg : Program} {id : Nat} {Q : Exit->Go.Act->World->Prop} {a : Go.Act} {w : World} {l : List Oper} (c e : Nat) (C : World->Prop) (hm : Pg.follows .mixedOrders = true) (hB : Region.lexB .any l.toArray = true)
  (hch : chainB .any l.toArray [c,e] = true) (hnd : [c,e].Nodup) (hcov : coverB .any l.toArray e = true) (hlow : lowB .any l.toArray = true) (hin : ∀ j ∈ [c,e],j < l.length)
  (h : ∀ (U : Type) (W : U->World),Nonempty U->(∀ u,Fr (fun _=>False) w (W u))->wpMix Pg l.toArray (fun w'=>∃ u,w' = W u) (fun k w'=>(k<=1->Fr (fun _=>False) w w')/\(k = 2->C w')) [c,e] (fun a'=>∀ w',C w'->Q .normal a' w') l 0 0 a) :
  (Code.region id l.toArray true).wp Pg Q a w:=by
 have hW:=h { w' : World // Fr (fun _=>False) w w' } (fun u=>u.1) ⟨⟨w,Fr.refl _ _⟩⟩ (fun u=>u.2);refine wp_region_mixS [c,e] (fun w'=>∃ u : { w' : World // Fr (fun _=>False) w w' },w' = u.1) (fun k w'=>(k<=1->Fr (fun _=>False) w w')/\(k = 2->C w')) 1 rfl hm hB hch hnd hlow hin ⟨fun _=>(Fr.refl _ _).drew,by simp⟩
  (fun k w' hk hw=>⟨⟨w',hw.1 hk⟩,rfl⟩) (.inl (by simpa using hcov)) ?_
 simpa using hW
section
variable {own : Own} {z : Nat} {w : World} {L : ZLay} {P : PSt}
theorem ZAt.clockSet (h : ZAt own z w L P) (c : Int) : ZAt own z (w.setCell ⟨L.s,2,none⟩ (.int .i64 c)) L { P with clock:=c }/\FrZ own z w (w.setCell ⟨L.s,2,none⟩ (.int .i64 c)):=by
 have hf : Fr (fun k=>k = L.s) w (w.setCell ⟨L.s,2,none⟩ (.int .i64 c)):=(Fr.refl _ _).set1 _ _;have he:=Ext.refl own w;have hn : ∀ tag,tag≠Tag.store->∀ k,own k = ⟨z,tag⟩->¬ k = L.s:=by
  rintro tag hne k hk rfl; rw [h.hown] at hk; simp at hk; exact hne hk.symm
 refine ⟨⟨h.hd.set 2 _,h.hown,MAt.same h.mem hf (hn _ (by simp) _ h.mo) (hn _ (by simp) _ h.no) (hn _ (by simp) _ h.eo),h.mo,h.no,h.eo,h.th.fr hf he (hn _ (by simp)),h.wlen,
  fun i l t hl ht=>(h.wk i l t hl ht).fr hf he (hn _ (by simp)) (fun k j=>hn _ (by simp) k) (hn _ (by simp)),h.ret.fr hf he (hn _ (by simp)),h.few⟩,?_⟩
 exact Fr.mono hf (by rintro k _ rfl; rw [h.hown])
theorem take_limit (h : ZAt own z w L P) {i : Nat} {l : WLay} {t : PThread} (hl : L.wks[i]? = some l) (ht : P.ts[i]? = some t) (hmade : t.work.made.length<=2) (hlim : P.limit<=P.clock) :
  Calls Tryz.prog 100 #[.pointer (some ⟨L.s,0,none⟩),.pointer (some ⟨l.b,0,none⟩)] w fun e w'=>e = .returned (.tuple #[])/\ZGoes own z w L (P.take i t.work) w':=by
 have hE : Hid (P.take i t.work = (P.setM ((P.mem.unpend t.work.tsrc t.work.tside).frees t.work.made)).setW i (t.work.settle { err:=8 })):=by show _ = _; simp only [PSt.take,if_pos hlim]
 have hs:=h.hd.cell;simp only [PSt.head] at hs;have H:=(mkH (ZAt own z w L P) <|h);have HL:=(mkH (L.wks[i]? = some l) <|hl);have Ht:=(mkH (P.ts[i]? = some t) <|ht);clear h hl ht
 go_enter Tryz.func100,Tryz.ntmps100
 go_wp2_with fail
 go_quiet (fail)
 have hd : Fr (fun _=>False) w (w.drewN nq):=(Fr.refl _ _).drewN _;have H1:=(mkH (ZAt own z (w.drewN nq) L P) <|H.out.calm hd);have HD:=(mkH (Fr (fun _=>False) w (w.drewN nq)) <|hd);clear hd hs H;generalize w.drewN nq = w1 at *;go_wp2_with fail;refine (undo_calls H1.out HL.out Ht.out hmade).mono ?_;rintro e w2 ⟨rfl,hZ,hF⟩;have H2:=(mkH (ZAt own z w2 L _) <|hZ);have HF2:=(mkH (FrZ own z w w2) <|FrZ.trans (Fr.mono HD.out (fun _ _ h=>h.elim)) (Ext.refl _ _) hF);clear hZ hF;go_wp2_with fail;refine (settle_calls H2.out HL.out Ht.out { err:=8 } rfl).mono ?_;rintro e w3 ⟨rfl,hG⟩;have HG:=(mkH (ZGoes _ _ _ _ _ _) <|hG);clear hG;go_wp2;refine bodyPost_ret (results_none rfl _ _ _) rfl ?_;rw [hE.out,setT_work (P:=P.setM ((P.mem.unpend t.work.tsrc t.work.tside).frees t.work.made)) Ht.out];exact ⟨rfl,ZGoes.trans (Ext.refl _ _) HF2.out rfl rfl rfl HG.out⟩
theorem take_remove (h : ZAt own z w L P) {i : Nat} {l : WLay} {t : PThread} (hl : L.wks[i]? = some l) (ht : P.ts[i]? = some t) (hlim : ¬ P.limit<=P.clock) (hc0 : 0<=P.clock) (hl40 : P.limit<=1099511627776) (hkd : t.work.kind = 2) :
  Calls Tryz.prog 100 #[.pointer (some ⟨L.s,0,none⟩),.pointer (some ⟨l.b,0,none⟩)] w fun e w'=>e = .returned (.tuple #[])/\ZGoes own z w L (P.take i t.work) w':=by
 have hE : Hid (P.take i t.work = ({ P with clock:=P.clock + 1 } : PSt).setW i { t.work with ans:={ did:=true,stamp:=P.clock + 1,value:=(P.mem.node t.work.ahead).value },next:=9 }):=by show _ = _; simp only [PSt.take,if_neg hlim,if_pos hkd]
 have hs:=h.hd.cell;simp only [PSt.head] at hs;have H:=(mkH (ZAt own z w L P) <|h);have HL:=(mkH (L.wks[i]? = some l) <|hl);have Ht:=(mkH (P.ts[i]? = some t) <|ht);clear h hl ht
 go_enter Tryz.func100,Tryz.ntmps100
 go_wp2_with fail
 go_quiet (fail)
 have hd : Fr (fun _=>False) w (w.drewN nq):=(Fr.refl _ _).drewN _;have H1:=(mkH (ZAt own z (w.drewN nq) L P) <|H.out.calm hd);have HD:=(mkH (FrZ own z w (w.drewN nq)) <|Fr.mono hd (fun _ _ h=>h.elim));clear hd hs H;generalize w.drewN nq = w1 at *;obtain ⟨ha,haz,hal,hs,hsz,hsl,n1,n2⟩:=H1.out.view HL.out Ht.out;simp only [PThread.cells,PSt.head,hkd] at ha hs;obtain ⟨hZ2,hF2⟩:=H1.out.clockSet (P.clock + 1);have H2:=(mkH (ZAt own z _ L _) <|hZ2);have HF2:=(mkH (FrZ own z w _) <|FrZ.trans HD.out (Ext.refl _ _) hF2);have HT2:=(mkH (At (w1.setCell ⟨L.s,2,none⟩ (.int .i64 (P.clock + 1))) l.b _ _) <|(hZ2.wk i l t HL.out Ht.out).at_);clear hZ2 hF2 H1 HD;go_wp2_with fail;have hG:=H2.out.wkAns HL.out Ht.out (t':={ t with work:={ t.work with ans:={ did:=true,stamp:=P.clock + 1 } } }) (w':=(((((w1.setCell ⟨L.s,2,none⟩ (.int .i64 (P.clock + 1))).setCell ⟨l.b,18,none⟩ (.int .i64 0)).setCell ⟨l.b,19,none⟩ (.bool true)).setCell ⟨l.b,20,none⟩ (.int .i64 0)).setCell ⟨l.b,21,none⟩ (.int .i64 (P.clock + 1))).setCell ⟨l.b,22,none⟩ (.slice none 0 0))
  (by repeat (with_reducible first | refine Fr.set1 ?_ _ _ | exact Fr.refl _ _)) (((((HT2.out.set 18 _).set 19 _).set 20 _).set 21 _).set 22 _) rfl rfl rfl rfl rfl rfl
 have HG:=(mkH (ZGoes own z _ L _ _) <|hG);clear hG ha haz hs hsz HT2 H2;generalize ((((((w1.setCell ⟨L.s,2,none⟩ (.int .i64 (P.clock + 1))).setCell ⟨l.b,18,none⟩ (.int .i64 0)).setCell ⟨l.b,19,none⟩ (.bool true)).setCell ⟨l.b,20,none⟩ (.int .i64 0)).setCell ⟨l.b,21,none⟩ (.int .i64 (P.clock + 1))).setCell ⟨l.b,22,none⟩ (.slice none 0 0)) = w3 at *;obtain ⟨own3,L3,hZ3,hE3,hF3,e1,e2,e3⟩:=HG.out;obtain ⟨l3,hl3,hb3⟩:=wks_get e3 HL.out;have H3:=(mkH (ZAt own3 z w3 L3 _) <|hZ3);have HE3:=(mkH (Ext own own3 w) <|fun j hj=>hE3 j (Nat.lt_of_lt_of_le hj HF2.out.size));have HF3:=(mkH (FrZ own z w w3) <|FrZ.trans HF2.out (Ext.refl _ _) hF3);have HL3:=(mkH (L3.wks[i]? = some l3) <|hl3);have E1:=(mkH (L3.s = L.s) <|e1);have E2:=(mkH (L3.ml = L.ml) <|e2);have E3:=(mkH (L3.wks.map (·.b) = L.wks.map (·.b)) <|e3);have Ht3:=(mkH (_ = some _) <|setT_get ({ P with clock:=P.clock + 1 } : PSt) Ht.out { t with work:={ t.work with ans:={ did:=true,stamp:=P.clock + 1 } } });rw [<- e1,<- hb3];clear HG hZ3 hE3 hF3 e1 e2 e3 hl3 hb3 HF2 n1 n2 hal hsl;have HT3:=(mkH (At w3 l3.b _ _) <|(H3.out.wk i l3 _ HL3.out Ht3.out).at_);refine wp_region_calmstore 10 16 (fun w'=>∃ w1,Fr (fun _=>False) w3 w1/\w' = w1.setCell ⟨l3.b,20,none⟩ (.int .i64 (P.mem.node t.work.ahead).value)) (by kernel_rfl) (by kernel_rfl) (by kernel_rfl) (by decide) (by kernel_rfl) (by kernel_rfl) (by decide) ?_;intro U W hU hW;have hau : ∀ u o,(W u).cell? ⟨L3.s,o,none⟩ = _:=fun u=>((H3.out).calm (hW u)).hd.cell
 have hlu : ∀ u o,(W u).cell? ⟨l3.b,o,none⟩ = _:=fun u=>(((H3.out).calm (hW u)).wk i l3 _ HL3.out Ht3.out).at_.cell
 simp only [PSt.head,PSt.setT] at hau;simp only [PThread.cells] at hlu;clear hW
 repeat (refine mix_read rfl rfl ?_; go_big_quiet_step (fail); refine wpQuiet_nil ?_)
 refine mix_effC (nodeVal (P.mem.node t.work.ahead)) rfl rfl rfl ?_ ?_
 ·intro w' hw';have hw0:=hw'.1 (by decide);go_simp;refine (Node_calls (H3.out.calm hw0).mem t.work.ahead).mono ?_;rintro e w'' ⟨rfl,hF⟩;exact ⟨rfl,hw0.trans hF⟩
 have hfd:=field_value (P.mem.node t.work.ahead);go_simp
 repeat (refine mix_read rfl rfl ?_; go_big_quiet_step (fail); refine wpQuiet_nil ?_)
 refine mix_effC undef rfl rfl rfl ?_ ?_
 ·intro w' hw';have hw0:=hw'.1 (by decide);have hA:=hw0.at HT3.out (fun h=>h);have hc:=hA.cell;have hf:=hA.frozen;simp only [PThread.cells] at hc;clear hau hlu;go_simp;exact ⟨rfl,w',hw0,rfl⟩
 go_simp;refine mix_nil ?_;intro w5 w4 hF4 hw5;subst hw5;clear hau hlu hfd;have H4:=(mkH (ZAt own3 z w4 L3 _) <|H3.out.calm hF4);have HF4:=(mkH (FrZ own z w w4) <|FrZ.trans HF3.out HE3.out (Fr.mono hF4 (fun _ _ h=>h.elim)));have HT4:=(mkH (At w4 l3.b _ _) <|(H4.out.wk i l3 _ HL3.out Ht3.out).at_);clear hF4 H3 HF3 HT3;have ha:=HT4.out.cell;have haz:=HT4.out.frozen;simp only [PThread.cells] at ha;go_wp2;refine bodyPost_ret (results_none rfl _ _ _) rfl ?_;rw [hE.out,setT_work (P:={ P with clock:=P.clock + 1 }) Ht.out];have R:=H4.out.wkCells HL3.out Ht3.out (t':={ t with work:={ t.work with ans:={ did:=true,stamp:=P.clock + 1,value:=(P.mem.node t.work.ahead).value },next:=9 } }) (((Fr.refl _ _).set1 20 (.int .i64 (P.mem.node t.work.ahead).value)).set1 7 (.int .i64 9)) ((HT4.out.set 20 _).set 7 _) rfl rfl rfl rfl rfl rfl;rw [setT_setT] at R;exact ⟨rfl,ZGoes.trans HE3.out HF4.out E1.out E2.out E3.out (ZGoes.here R)⟩
end
end
section
open Go.RowKit
section
variable {own : Own} {z : Nat} {w : World} {L : ZLay} {P : PSt}
theorem take_insert (h : ZAt own z w L P) {i : Nat} {l : WLay} {t : PThread} (hl : L.wks[i]? = some l) (ht : P.ts[i]? = some t) (hlim : ¬ P.limit<=P.clock) (hc0 : 0<=P.clock) (hl40 : P.limit<=1099511627776) (hkd : ¬ t.work.kind = 2) (hmade : t.work.made.length<=2) :
  Calls Tryz.prog 100 #[.pointer (some ⟨L.s,0,none⟩),.pointer (some ⟨l.b,0,none⟩)] w fun e w'=>e = .returned (.tuple #[])/\ZGoes own z w L (P.take i t.work) w':=by
 have hE : Hid (P.take i t.work = (({ P with clock:=P.clock + 1 } : PSt).setM (P.mem.stampsNew (P.clock + 1) t.work.made)).setW i { t.work with ans:={ did:=true,stamp:=P.clock + 1 },next:=10 }):=by show _ = _; simp only [PSt.take,if_neg hlim,if_neg hkd]
 have hkd' : (t.work.kind == 2) = false:=by simpa using hkd
 clear hkd;have hs:=h.hd.cell;simp only [PSt.head] at hs;have H:=(mkH (ZAt own z w L P) <|h);have HL:=(mkH (L.wks[i]? = some l) <|hl);have Ht:=(mkH (P.ts[i]? = some t) <|ht);clear h hl ht
 go_enter Tryz.func100,Tryz.ntmps100
 go_wp2_with fail
 go_quiet (fail)
 have hd : Fr (fun _=>False) w (w.drewN nq):=(Fr.refl _ _).drewN _;have H1:=(mkH (ZAt own z (w.drewN nq) L P) <|H.out.calm hd);have HD:=(mkH (FrZ own z w (w.drewN nq)) <|Fr.mono hd (fun _ _ h=>h.elim));clear hd hs H;generalize w.drewN nq = w1 at *;obtain ⟨ha,haz,hal,hs,hsz,hsl,n1,n2⟩:=H1.out.view HL.out Ht.out;simp only [PThread.cells,PSt.head] at ha hs;obtain ⟨ma0,mcap0,hmv0,_⟩:=((H1.out.wk i l _ HL.out Ht.out).made).shape;rw [hmv0] at ha;obtain ⟨hZ2,hF2⟩:=H1.out.clockSet (P.clock + 1);have H2:=(mkH (ZAt own z _ L _) <|hZ2);have HF2:=(mkH (FrZ own z w _) <|FrZ.trans HD.out (Ext.refl _ _) hF2);have HT2:=(mkH (At (w1.setCell ⟨L.s,2,none⟩ (.int .i64 (P.clock + 1))) l.b _ _) <|(hZ2.wk i l t HL.out Ht.out).at_);clear hZ2 hF2 H1 HD;go_wp2_with fail;have hG:=H2.out.wkAns HL.out Ht.out (t':={ t with work:={ t.work with ans:={ did:=true,stamp:=P.clock + 1 } } }) (w':=(((((w1.setCell ⟨L.s,2,none⟩ (.int .i64 (P.clock + 1))).setCell ⟨l.b,18,none⟩ (.int .i64 0)).setCell ⟨l.b,19,none⟩ (.bool true)).setCell ⟨l.b,20,none⟩ (.int .i64 0)).setCell ⟨l.b,21,none⟩ (.int .i64 (P.clock + 1))).setCell ⟨l.b,22,none⟩ (.slice none 0 0))
  (by repeat (with_reducible first | refine Fr.set1 ?_ _ _ | exact Fr.refl _ _)) (((((HT2.out.set 18 _).set 19 _).set 20 _).set 21 _).set 22 _) rfl rfl rfl rfl rfl rfl
 have HG:=(mkH (ZGoes own z _ L _ _) <|hG);clear hG ha haz hs hsz HT2 H2;generalize ((((((w1.setCell ⟨L.s,2,none⟩ (.int .i64 (P.clock + 1))).setCell ⟨l.b,18,none⟩ (.int .i64 0)).setCell ⟨l.b,19,none⟩ (.bool true)).setCell ⟨l.b,20,none⟩ (.int .i64 0)).setCell ⟨l.b,21,none⟩ (.int .i64 (P.clock + 1))).setCell ⟨l.b,22,none⟩ (.slice none 0 0)) = w3 at *;obtain ⟨own3,L3,hZ3,hE3,hF3,e1,e2,e3⟩:=HG.out;obtain ⟨l3,hl3,hb3⟩:=wks_get e3 HL.out;have H3:=(mkH (ZAt own3 z w3 L3 _) <|hZ3);have HE3:=(mkH (Ext own own3 w) <|fun j hj=>hE3 j (Nat.lt_of_lt_of_le hj HF2.out.size));have HF3:=(mkH (FrZ own z w w3) <|FrZ.trans HF2.out (Ext.refl _ _) hF3);have HL3:=(mkH (L3.wks[i]? = some l3) <|hl3);have E1:=(mkH (L3.s = L.s) <|e1);have E2:=(mkH (L3.ml = L.ml) <|e2);have E3:=(mkH (L3.wks.map (·.b) = L.wks.map (·.b)) <|e3);have Ht3:=(mkH (_ = some _) <|setT_get ({ P with clock:=P.clock + 1 } : PSt) Ht.out { t with work:={ t.work with ans:={ did:=true,stamp:=P.clock + 1 } } });rw [<- e1,<- hb3];clear HG hZ3 hE3 hF3 e1 e2 e3 hl3 hb3 HF2 n1 n2 hal hsl;obtain ⟨ma,mcap,hmv,hmg⟩:=((H3.out.wk i l3 _ HL3.out Ht3.out).made).shape;have HMV:=(mkH (l3.made = _) <|hmv);have HMG:=(mkH (t.work.made.length≠0->_) <|hmg);clear hmg;generalize hP3 : ({ P with clock:=P.clock + 1 } : PSt).setT i { t with work:={ t.work with ans:={ did:=true,stamp:=P.clock + 1 } } } = P3 at *;generalize ht3 : ({ t with work:={ t.work with ans:={ did:=true,stamp:=P.clock + 1 } } } : PThread) = t3 at *;have hmd : Hid (t3.work.made = t.work.made):=by show _ = _; rw [<- ht3]
 have hcl : P3.clock = P.clock + 1:=by rw [<- hP3]; rfl
 have hmm : Hid (P3.mem = P.mem):=by show _ = _; rw [<- hP3]; rfl
 have H4:=(mkH (ZAt own3 z w3 L3 (P3.setM (P3.mem.stampsNew (P.clock + 1) (t.work.made.take 0)))) <|H3.out);have hlen3 : t3.work.made.length = t.work.made.length:=by rw [hmd.out]
 have HT3:=(mkH (At w3 l3.b _ _) <|(H4.out.wk i l3 _ HL3.out Ht3.out).at_);have ha:=HT3.out.cell;simp only [PThread.cells] at ha;rw [hmv,hlen3] at ha;rw [hlen3] at hmv;clear HT3 H3 ha
 go_loopw [4,68] (fun _ j wr=>∃ k : Nat,k<=t.work.made.length/\j = .int .i64 k/\Hid (ZAt own3 z wr L3 (P3.setM (P3.mem.stampsNew (P.clock + 1) (t.work.made.take k))))/\Hid (FrZ own z w wr)) (fun _ j _=>t.work.made.length - (intOf j).toNat)
 case atStart=>exact ⟨0,Nat.zero_le _,rfl,H4,HF3⟩
 case round =>
  clear H4 HF3;obtain ⟨k,hk,rfl,H2,HZF⟩:=hrel;by_cases hlt : k < t.work.made.length
  ·obtain ⟨g,rfl,_⟩:=HMG.out (by omega);have hx : t.work.made[k]? = some t.work.made[k]:=List.getElem?_eq_getElem hlt;have hnext : t.work.made.take (k + 1) = t.work.made.take k ++ [t.work.made[k]]:=List.take_succ_eq_append_getElem hlt;generalize t.work.made[k] = x at hx hnext;have hE2 : Hid (P3.mem.stampsNew (P.clock + 1) (t.work.made.take (k + 1)) = (P3.mem.stampsNew (P.clock + 1) (t.work.made.take k)).stampNew x (P.clock + 1)):=by show _ = _; rw [hnext,stampsNew_append]; rfl
   have HX:=(mkH (t3.work.made[k]? = some x) <|by rw [hmd.out]; exact hx);clear hx hnext;go_wp2_with fail;refine wp_region_one 16 L3.ml (fun w'=>MAt w' L3.ml ((P3.mem.stampsNew (P.clock + 1) (t.work.made.take k)).stampNew x (P.clock + 1))/\MFr L3.ml wr w') (fun _ h=>h.2) (by kernel_rfl) (by kernel_rfl) (by kernel_rfl) (by kernel_rfl) (by decide) ?_;intro U W hU hW;have hau : ∀ u o,(W u).cell? ⟨L3.s,o,none⟩ = ((P3.setM (P3.mem.stampsNew (P.clock + 1) (t.work.made.take k))).head L3)[o]?:=fun u=>(H2.out.memCells (hW u)).1
   have hlu : ∀ u o,(W u).cell? ⟨l3.b,o,none⟩ = (t3.cells i l3)[o]?:=fun u=>(H2.out.memCells (hW u)).2 i l3 t3 HL3.out Ht3.out
   have hgu : ∀ u,(W u).cell? ⟨g,k,none⟩ = some (.int .i64 x):=fun u=>H2.out.madeCell (hW u) HL3.out Ht3.out HMV.out HX.out
   simp only [PSt.head,PSt.setM,hcl] at hau;simp only [PThread.cells,hmv] at hlu;clear hW
   repeat (refine mix_read rfl rfl ?_; go_big_quiet_step (fail); refine wpQuiet_nil ?_)
   refine mix_effC (.tuple #[]) rfl rfl rfl ?_ ?_
   ·intro w' hw';have hw0:=hw'.1 rfl;go_simp;refine (StampNew_calls (H2.out.calm hw0).mem x (P.clock + 1)).mono ?_;rintro e w'' ⟨rfl,hM,hF⟩;exact ⟨rfl,hM,(MFr.of0 hw0).trans hF⟩
   go_simp;refine mix_nil ?_;intro w5 hM5 hF5;clear hau hlu hgu;obtain ⟨hZ5,hZF5⟩:=H2.out.memSet hM5 hF5;have H5:=(mkH (ZAt own3 z w5 L3 (P3.setM (P3.mem.stampsNew (P.clock + 1) (t.work.made.take (k + 1))))) <|by rw [hE2.out]; exact hZ5);have HZF5:=(mkH (FrZ own z w w5) <|FrZ.trans HZF.out HE3.out hZF5);clear hM5 hF5 hZ5 hZF5;go_wp2
   go_roundw
   case rel=>exact ⟨k + 1,by omega,by go_num,H5,HZF5⟩
   case measure=>simp [intOf]; omega
  ·have hk' : k = t.work.made.length:=by omega
   subst hk';have H5:=H2.out;rw [List.take_length] at H5;have H6:=(mkH (ZAt own3 z wr L3 _) <|H5);clear H5 H2;have HT6:=(mkH (At wr l3.b _ _) <|(H6.out.wk i l3 _ HL3.out Ht3.out).at_);have ha:=HT6.out.cell;have haz:=HT6.out.frozen;simp only [PThread.cells] at ha;go_wp2
   go_end0
   rw [hE.out,setT_work (P:=({ P with clock:=P.clock + 1 } : PSt).setM (P.mem.stampsNew (P.clock + 1) t.work.made)) Ht.out];have R:=H6.out.wkCells HL3.out Ht3.out (t':={ t3 with work:={ t3.work with next:=10 } }) ((Fr.refl _ _).set1 7 (.int .i64 10)) (HT6.out.set 7 _) rfl rfl rfl rfl rfl rfl;refine ⟨rfl,ZGoes.trans HE3.out HZF.out E1.out E2.out E3.out ?_⟩;have hfin : (P3.setM (P3.mem.stampsNew (P.clock + 1) t.work.made)).setT i { t3 with work:={ t3.work with next:=10 } } = (({ P with clock:=P.clock + 1 } : PSt).setM (P.mem.stampsNew (P.clock + 1) t.work.made)).setT i { t with work:={ t.work with ans:={ did:=true,stamp:=P.clock + 1 },next:=10 } }:=by
    rw [hmm.out,<- hP3,<- ht3]; simp [PSt.setM,PSt.setT,List.set_set]
   rw [hfin] at R;exact ZGoes.here R
end
end
end Go.Proofs.YtfccelbmacjifabGreat
