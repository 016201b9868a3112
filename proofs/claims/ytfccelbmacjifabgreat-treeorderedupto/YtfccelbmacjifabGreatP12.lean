import Derived.Test.YtfccelbmacjifabGreatP0
import Derived.Test.YtfccelbmacjifabGreatP11
set_option linter.unusedSimpArgs false
set_option maxRecDepth 100000
set_option maxHeartbeats 4000000
namespace Go.Proofs.YtfccelbmacjifabGreat
section
open Go.RowKit
section
variable {w : World} {l : MLay} {M : PMem}
theorem LinkFor_size (h : MAt w l M) (n key : Int) :
  Calls Tryz.prog 109 #[.pointer (some ⟨l.m,0,none⟩),.int .i64 n,.int .i64 key] w fun e w'=>e = .returned (lnk n (M.sideFor n key))/\Fr (fun _=>False) w w'/\w'.heap.size = w.heap.size + 4:=by
 have H:=(mkH (MAt w l M) <|h);have hF : Fr (fun _=>False) w (w.alloc (.cells #[.int .i64 0,.int .i64 0] 113)):=(Fr.refl _ _).alloc _;have H1:=(mkH (MAt _ l M) <|MAt.same0 h hF);have hA:=At.new w [.int .i64 0,.int .i64 0] 113;have HA:=(mkH (At _ _ _ _) <|hA);have HF:=(mkH (Fr _ _ _) <|hF);clear h hF hA
 go_enter Tryz.func109,Tryz.ntmps109
 go_wp2_with fail;refine (Node_size H1.out n).mono ?_;rintro e w1 ⟨rfl,hF1,hz1⟩;have HZ1:=(mkH (w1.heap.size = _) <|hz1);clear hz1;have hA1:=hF1.at HA.out (fun h=>h);have hsz:=hA1.lt;have HF1:=(mkH (Fr _ w w1) <|HF.out.trans hF1);have HA1:=(mkH (At _ _ _ _) <|hA1);generalize hx : M.node n = x;have hside : Hid (M.sideFor n key = ((x.links == 2) && decide (x.key<=key))):=by show _ = _; unfold PMem.sideFor; rw [hx]
 unfold nodeVal;clear hF1 HA HF H1 H hA1 hx;go_wp2_with fail;refine (IsInner_size x _).mono ?_;rintro e w2 ⟨rfl,hF2,hz2'⟩;have hsize : Hid (w2.heap.size = w.heap.size + 4):=by
  show _ = _;have hz1:=HZ1.out;simp only [World.size_alloc] at hz1 hz2';omega
 clear HZ1 hz2';have hA2:=hF2.at (HA1.out.alloc _) (fun h=>h);have hB2:=hF2.at (At.new w1 x.cells 131) (fun h=>h);have hz2:=hA2.frozen;have hc2:=hA2.cell;have hb2:=hB2.cell;simp only [PNode.cells] at hb2;have HF2:=(mkH (Fr _ w w2) <|(HF1.out.alloc _).trans hF2);have HA2:=(mkH (At _ _ _ _) <|hA2);have hsz2 : w.heap.size<=w.heap.size:=Nat.le_refl _;clear hF2 hA2 hB2 HF1 HA1;cases hl : (x.links == 2)
 ·have hs : Hid (M.sideFor n key = false):=by show _ = _; rw [hside.out,hl]; rfl
  go_wp2;have f0:=(HA2.out.set 0 (.int .i64 n)).cell;have f1:=((HA2.out.set 0 (.int .i64 n)).set 1 (.int .i64 0)).cell;refine bodyPost_ret (v:=lnk n false) (by simp [results,Tryz.results109,go_sem,lnk,b2i,f0,f1]) rfl ?_;rw [hs.out];refine ⟨rfl,?_,by simpa using hsize.out⟩;exact Fr.setNew (Nat.le_refl _) (Fr.setNew (Nat.le_refl _) HF2.out _ _) _ _
 ·by_cases hk : x.key<=key
  ·have hs : Hid (M.sideFor n key = true):=by show _ = _; rw [hside.out,hl,decide_eq_true hk]; rfl
   go_wp2;have f0:=(HA2.out.set 0 (.int .i64 n)).cell;have f1:=((HA2.out.set 0 (.int .i64 n)).set 1 (.int .i64 1)).cell;refine bodyPost_ret (v:=lnk n true) (by simp [results,Tryz.results109,go_sem,lnk,b2i,f0,f1]) rfl ?_;rw [hs.out];refine ⟨rfl,?_,by simpa using hsize.out⟩;exact Fr.setNew (Nat.le_refl _) (Fr.setNew (Nat.le_refl _) HF2.out _ _) _ _
  ·have hs : Hid (M.sideFor n key = false):=by show _ = _; rw [hside.out,hl,decide_eq_false hk]; rfl
   go_wp2;have f0:=(HA2.out.set 0 (.int .i64 n)).cell;have f1:=((HA2.out.set 0 (.int .i64 n)).set 1 (.int .i64 0)).cell;refine bodyPost_ret (v:=lnk n false) (by simp [results,Tryz.results109,go_sem,lnk,b2i,f0,f1]) rfl ?_;rw [hs.out];refine ⟨rfl,?_,by simpa using hsize.out⟩;exact Fr.setNew (Nat.le_refl _) (Fr.setNew (Nat.le_refl _) HF2.out _ _) _ _
theorem LinkFor_calls (h : MAt w l M) (n key : Int) :
  Calls Tryz.prog 109 #[.pointer (some ⟨l.m,0,none⟩),.int .i64 n,.int .i64 key] w fun e w'=>e = .returned (lnk n (M.sideFor n key))/\Fr (fun _=>False) w w' :=
 (LinkFor_size h n key).mono fun _ _ h=>⟨h.1,h.2.1⟩
theorem LeadsTo_calls (h : MAt w l M) (n : Int) (s : Bool) :
  Calls Tryz.prog 132 #[.pointer (some ⟨l.m,0,none⟩),lnk n s] w fun e w'=>e = .returned (.int .i64 (M.leadsTo n s))/\Fr (fun _=>False) w w':=by
 have hs:=h.nsmall;have HB:=(mkH (Boxed _ _ _ _ _ _ _) <|Boxed.new h n s);have hc:=HB.out.mem.hd.cell;have hb:=HB.out.box.cell;clear h;unfold lnk
 go_enter Tryz.func132,Tryz.ntmps132
 go_wp2_with fail;refine (hasLink_calls HB.out.mem n s).mono ?_;rintro e w1 ⟨rfl,hF⟩;have HB1:=(mkH (Boxed _ _ _ _ _ _ _) <|HB.out.step hF);clear hF HB hc hb;have hc:=HB1.out.mem.hd.cell;have hb:=HB1.out.box.cell;cases hl : M.hasLink n s
 ·have hE : Hid (M.leadsTo n s = -1):=by show _ = _; simp [PMem.leadsTo,hl]
  go_wp2;go_ret;exact ⟨ret_int hE.out.symm,HB1.out.fr⟩
 ·have hn : M.hasNode n = true:=by unfold PMem.hasLink at hl; simp at hl; exact hl.1
  obtain ⟨k,x,rfl,hlt,hx,hnode⟩:=hasNode_get hn;have hE : Hid (M.leadsTo k s = x.leads s):=by show _ = _; simp [PMem.leadsTo,hl,hnode]
  have c8:=MemAt.node HB1.out.mem hx (j:=8) (u:=.int .i64 (x.leads false)) rfl;have c9:=MemAt.node HB1.out.mem hx (j:=9) (u:=.int .i64 (x.leads true)) rfl;clear hn hx hnode;cases s
  all_goals
   simp only [b2i_true,b2i_false] at hb ⊢;go_wp2_with fail
   go_quiet (fail)
   go_wp2;go_ret;exact ⟨ret_int hE.out.symm,(HB1.out.drewN _).fr⟩
theorem Lead_calls (h : MAt w l M) (n : Int) (s : Bool) :
  Calls Tryz.prog 102 #[.pointer (some ⟨l.m,0,none⟩),lnk n s] w fun e w'=>e = .returned (.tuple #[])/\MAt w' l (M.lead n s)/\MFr l w w':=by
 have hs:=h.nsmall;have hes:=h.esmall;have HB:=(mkH (Boxed _ _ _ _ _ _ _) <|Boxed.new h n s);have hc:=HB.out.mem.hd.cell;have hb:=HB.out.box.cell;clear h;unfold lnk
 go_enter Tryz.func102,Tryz.ntmps102
 go_wp2_with fail;refine (pending_calls HB.out.mem n s).mono ?_;rintro e w1 ⟨rfl,hF⟩;have HB1:=(mkH (Boxed _ _ _ _ _ _ _) <|HB.out.step hF);clear hF HB hc hb;have hc:=HB1.out.mem.hd.cell;have hb:=HB1.out.box.cell;go_wp2_with fail;refine (hasEntry_calls HB1.out.mem _).mono ?_;rintro e w' ⟨rfl,rfl⟩;cases he : M.hasEntry (M.pending n s)
 ·have hE : Hid (M.lead n s = M):=by show _ = _; simp [PMem.lead,he]
  go_wp2;refine bodyPost_ret (results_none rfl _ _ _) rfl ?_;exact ⟨rfl,by rw [hE.out]; exact HB1.out.mem,.of0 HB1.out.fr⟩
 ·go_wp2_with fail;refine (hasLink_calls HB1.out.mem n s).mono ?_;rintro e w2 ⟨rfl,hF⟩;have HB2:=(mkH (Boxed _ _ _ _ _ _ _) <|HB1.out.step hF);clear hF HB1 hc hb;have hc:=HB2.out.mem.hd.cell;have hb:=HB2.out.box.cell;cases hl : M.hasLink n s
  ·have hE : Hid (M.lead n s = M):=by show _ = _; simp [PMem.lead,he,hl]
   go_wp2;refine bodyPost_ret (results_none rfl _ _ _) rfl ?_;exact ⟨rfl,by rw [hE.out]; exact HB2.out.mem,.of0 HB2.out.fr⟩
  ·have hn : M.hasNode n = true:=by unfold PMem.hasLink at hl; simp at hl; exact hl.1
   have hE : Hid (M.lead n s = M.modN n fun x=>{ x with leads:=upd x.leads s (M.ent (M.pending n s)).dst }):=by show _ = _; simp [PMem.lead,he,hl]
   obtain ⟨k,x,rfl,hlt,hx,hnode⟩:=hasNode_get hn;obtain ⟨h0,h1⟩:=isIn_iff.1 he;obtain ⟨q,hq⟩:=Int.eq_ofNat_of_zero_le h0;rw [hq] at hE ⊢;have hqlt : q < M.es.length:=by omega
   have hy : M.es[q]? = some M.es[q]:=List.getElem?_eq_getElem hqlt;generalize M.es[q] = y at hy;have hd : M.ent (q : Int) = y:=by simp [PMem.ent,hy]
   rw [hd] at hE;have HX:=(mkH (M.ns[k]? = some x) <|hx);have c8:=MemAt.node HB2.out.mem hx (j:=8) (u:=.int .i64 (x.leads false)) rfl;have c9:=MemAt.node HB2.out.mem hx (j:=9) (u:=.int .i64 (x.leads true)) rfl;have d4:=MemAt.ent HB2.out.mem hy (j:=4) (u:=.int .i64 y.dst) rfl;have hf:=ownsRow_frozen HB2.out.mem.nodes;clear hn hx hnode hy hd he h0 h1 hq hl;cases s
   ·simp only [b2i_true,b2i_false] at hb ⊢;go_wp2_with fail;go_region;go_wp2
    go_end0
    refine ⟨rfl,by rw [hE.out]; exact MemAt.drew (MAt.nodeSet HX.out _ (MemAt.setNode HB2.out.mem HX.out 8 { x with leads:=upd x.leads false y.dst } (.int .i64 y.dst) (by decide) rfl) _ rfl),(MFr.of0 HB2.out.fr).trans ?_⟩;unfold MFr
    repeat (with_reducible first | refine Fr.setIn (.inl rfl) ?_ _ _ | refine Fr.drewN ?_ _ | refine Fr.drew ?_ | exact Fr.refl _ _)
   ·simp only [b2i_true,b2i_false] at hb ⊢;go_wp2_with fail;go_region;go_wp2
    go_end0
    refine ⟨rfl,by rw [hE.out]; exact MemAt.drew (MAt.nodeSet HX.out _ (MemAt.setNode HB2.out.mem HX.out 9 { x with leads:=upd x.leads true y.dst } (.int .i64 y.dst) (by decide) rfl) _ rfl),(MFr.of0 HB2.out.fr).trans ?_⟩;unfold MFr
    repeat (with_reducible first | refine Fr.setIn (.inl rfl) ?_ _ _ | refine Fr.drewN ?_ _ | refine Fr.drew ?_ | exact Fr.refl _ _)
theorem Unpend_calls (h : MAt w l M) (n : Int) (s : Bool) :
  Calls Tryz.prog 140 #[.pointer (some ⟨l.m,0,none⟩),lnk n s] w fun e w'=>e = .returned (.tuple #[])/\MAt w' l (M.unpend n s)/\MFr l w w':=by
 have hs:=h.esmall;have HB:=(mkH (Boxed _ _ _ _ _ _ _) <|Boxed.new h n s);have hc:=HB.out.mem.hd.cell;have hb:=HB.out.box.cell;clear h;unfold lnk
 go_enter Tryz.func140,Tryz.ntmps140
 go_wp2_with fail;refine (pending_calls HB.out.mem n s).mono ?_;rintro e w1 ⟨rfl,hF⟩;have HB1:=(mkH (Boxed _ _ _ _ _ _ _) <|HB.out.step hF);clear hF HB hc hb;have hc:=HB1.out.mem.hd.cell;have hb:=HB1.out.box.cell;go_wp2_with fail;refine (hasEntry_calls HB1.out.mem _).mono ?_;rintro e w' ⟨rfl,rfl⟩;cases he : M.hasEntry (M.pending n s)
 ·have hE : Hid (M.unpend n s = M):=by show _ = _; simp [PMem.unpend,he]
  go_wp2;refine bodyPost_ret (results_none rfl _ _ _) rfl ?_;exact ⟨rfl,by rw [hE.out]; exact HB1.out.mem,.of0 HB1.out.fr⟩
 ·have hE : Hid (M.unpend n s = M.setE (M.pending n s) PEntry.zero):=by show _ = _; simp [PMem.unpend,he]
  obtain ⟨h0,h1⟩:=isIn_iff.1 he;obtain ⟨k,hk⟩:=Int.eq_ofNat_of_zero_le h0;rw [hk] at hE ⊢;have hlt : k < M.es.length:=by omega
  have hx : Hid (M.es[k]? = some M.es[k]):=List.getElem?_eq_getElem hlt;generalize M.es[k] = x at hx;have c0:=MemAt.ent HB1.out.mem hx.out (j:=0) (u:=.bool x.used) rfl;have c1:=MemAt.ent HB1.out.mem hx.out (j:=1) (u:=.bool x.pending) rfl;have c2:=MemAt.ent HB1.out.mem hx.out (j:=2) (u:=.int .i64 x.src) rfl;have c3:=MemAt.ent HB1.out.mem hx.out (j:=3) (u:=.int .i64 (b2i x.side)) rfl;have c4:=MemAt.ent HB1.out.mem hx.out (j:=4) (u:=.int .i64 x.dst) rfl;have c5:=MemAt.ent HB1.out.mem hx.out (j:=5) (u:=.int .i64 x.stamp) rfl;rw [Nat.add_zero] at c0;have hf:=ownsRow_frozen HB1.out.mem.ents;clear he h0 h1 hk;go_wp2
  go_end0
  rw [hE.out];refine ⟨rfl,MemAt.putEnt HB1.out.mem hx.out PEntry.zero,(MFr.of0 HB1.out.fr).trans ?_⟩;unfold MFr
  repeat (with_reducible first | refine Fr.setIn (.inr rfl) ?_ _ _ | refine Fr.drewN ?_ _ | refine Fr.drew ?_ | exact Fr.refl _ _)
theorem HasPending_calls (h : MAt w l M) (n : Int) (s : Bool) :
  Calls Tryz.prog 92 #[.pointer (some ⟨l.m,0,none⟩),lnk n s] w fun e w'=>e = .returned (.bool (M.hasPending n s))/\Fr (fun _=>False) w w':=by
 have HB:=(mkH (Boxed _ _ _ _ _ _ _) <|Boxed.new h n s);have hc:=HB.out.mem.hd.cell;have hb:=HB.out.box.cell;clear h;unfold lnk
 go_enter Tryz.func92,Tryz.ntmps92
 go_wp2_with fail;refine (pending_calls HB.out.mem n s).mono ?_;rintro e w1 ⟨rfl,hF⟩;have HB1:=(mkH (Boxed _ _ _ _ _ _ _) <|HB.out.step hF);clear hF HB hc hb;go_wp2;go_ret;exact ⟨ret_bool rfl,HB1.out.fr⟩
theorem Other_calls (n : Int) (s : Bool) (w : World) :
  Calls Tryz.prog 139 #[lnk n s] w fun e w'=>e = .returned (lnk n (!s))/\Fr (fun _=>False) w w':=by
 have hA:=(At.new w [.int .i64 n,.int .i64 (b2i s)] 113).cell;unfold lnk;cases s
 all_goals
  simp only [b2i_true,b2i_false] at hA ⊢
  go_enter Tryz.func139,Tryz.ntmps139
  go_wp2;refine bodyPost_ret (v:=.agg #[.int .i64 n,_]) (by simp [results,Tryz.results139,go_sem,b2i]; rfl) rfl ?_;refine ⟨by simp [b2i],?_⟩
  repeat (with_reducible first | refine Fr.alloc ?_ _ | exact Fr.refl _ _)
end
end
section
open Go.RowKit
section
variable {w : World} {l : MLay} {M : PMem}
def entVal (x : PEntry) : Value:=.agg #[.bool x.used,.bool x.pending,.int .i64 x.src,.int .i64 (b2i x.side),.int .i64 x.dst,.int .i64 x.stamp]
theorem isStamped_calls (x : PEntry) (n : Int) (s : Bool) (w : World) :
  Calls Tryz.prog 107 #[entVal x,lnk n s] w fun e w'=>e = .returned (.bool (isSt n s x))/\Fr (fun _=>False) w w':=by
 obtain ⟨us,pe,sr,si,ds,st⟩:=x;have hbb:=b2i_beq si s;have HB:=(show Hid _ from hbb);clear hbb;unfold entVal lnk isSt;simp only
 go_enter Tryz.func107,Tryz.ntmps107
 cases us
 ·go_wp2;go_ret;exact ⟨ret_bool (by simp),((Fr.refl _ _).alloc _).alloc _⟩
 ·cases pe
  ·cases hq : (sr == n)
   ·cases hr : (b2i si == b2i s)
    ·go_wp2;go_ret;exact ⟨ret_bool (by simp),((Fr.refl _ _).alloc _).alloc _⟩
    ·go_wp2;go_ret;exact ⟨ret_bool (by simp),((Fr.refl _ _).alloc _).alloc _⟩
   ·cases hr : (b2i si == b2i s)
    ·go_wp2;go_ret;exact ⟨ret_bool (by rw [HB.out] at hr; simp [hr]),((Fr.refl _ _).alloc _).alloc _⟩
    ·go_wp2;go_ret;exact ⟨ret_bool (by rw [HB.out] at hr; simp [hr]),((Fr.refl _ _).alloc _).alloc _⟩
  ·go_wp2;go_ret;exact ⟨ret_bool (by simp),((Fr.refl _ _).alloc _).alloc _⟩
theorem led_take {es : List PEntry} {k : Nat} {x : PEntry} (h : es[k]? = some x) (n : Int) (s : Bool) (t : Int) (p : Int × Int) : (es.take (k + 1)).foldl (ledStep n s t) p = ledStep n s t ((es.take k).foldl (ledStep n s t) p) x:=by
 rw [List.take_add_one,h,List.foldl_append]; rfl
theorem LedTo_calls (h : MAt w l M) (n : Int) (s : Bool) (t : Int) :
  Calls Tryz.prog 93 #[.pointer (some ⟨l.m,0,none⟩),lnk n s,.int .i64 t] w fun e w'=>e = .returned (.int .i64 (M.ledTo n s t))/\Fr (fun _=>False) w w':=by
 have hs:=h.esmall;have HB:=(mkH (Boxed _ _ _ _ _ _ _) <|Boxed.new h n s);have hc:=HB.out.mem.hd.cell;clear h;unfold PMem.ledTo lnk
 go_enter Tryz.func93,Tryz.ntmps93
 go_wp2;clear hc
 go_loopw [7,8,16] (fun to g i wr=>∃ k : Nat,k<=M.es.length/\i = .int .i64 k/\∃ m d : Int,g = .int .i64 m/\to = .int .i64 d/\Hid ((M.es.take k).foldl (ledStep n s t) (-1,1) = (m,d))/\Hid (Boxed w wr l M w.heap.size n s)) (fun _ _ i _=>M.es.length - (intOf i).toNat)
 case atStart=>exact ⟨0,Nat.zero_le _,rfl,-1,1,rfl,rfl,rfl,HB⟩
 case round =>
  clear HB;obtain ⟨k,hk,rfl,m,d,rfl,rfl,HE,HB⟩:=hrel;have hc:=HB.out.mem.hd.cell;have hb:=HB.out.box.cell;by_cases hlt : k < M.es.length
  ·have hx : Hid (M.es[k]? = some M.es[k]):=List.getElem?_eq_getElem hlt;generalize M.es[k] = x at hx;have c0:=MemAt.ent HB.out.mem hx.out (j:=0) (u:=.bool x.used) rfl;have c1:=MemAt.ent HB.out.mem hx.out (j:=1) (u:=.bool x.pending) rfl;have c2:=MemAt.ent HB.out.mem hx.out (j:=2) (u:=.int .i64 x.src) rfl;have c3:=MemAt.ent HB.out.mem hx.out (j:=3) (u:=.int .i64 (b2i x.side)) rfl;have c4:=MemAt.ent HB.out.mem hx.out (j:=4) (u:=.int .i64 x.dst) rfl;have c5:=MemAt.ent HB.out.mem hx.out (j:=5) (u:=.int .i64 x.stamp) rfl;rw [Nat.add_zero] at c0;have HN:=(show Hid _ from led_take hx.out n s t (-1,1));have hlb:=HB.out.box.lt;have hlm:=HB.out.mem.hd.lt;go_wp2_with fail;refine (isStamped_calls x n s _).mono ?_;rintro e w1 ⟨rfl,hF⟩;have HB1:=(mkH (Boxed w w1 l M w.heap.size n s) <|HB.out.step (((Fr.refl _ _).alloc _).trans hF));have HX:=(mkH (At w1 wr.heap.size [.bool x.used,.bool x.pending,.int .i64 x.src,.int .i64 (b2i x.side),.int .i64 x.dst,.int .i64 x.stamp] 133) <|hF.at (At.new wr [.bool x.used,.bool x.pending,.int .i64 x.src,.int .i64 (b2i x.side),.int .i64 x.dst,.int .i64 x.stamp] _) (fun h=>h));have hxc:=HX.out.cell;clear hF HB hc hb c0 c1 c2 c3 c4 c5 hlb hlm;cases hst : isSt n s x
   ·go_wp2
    go_roundw
    case rel=>exact ⟨k + 1,by omega,by go_num,m,d,rfl,rfl,by show List.foldl _ _ _ = _; rw [HN.out,HE.out]; unfold ledStep; rw [hst]; rfl,HB1⟩
    case measure=>simp [intOf]; omega
   ·by_cases h1 : x.stamp<=t
    ·by_cases h2 : m < x.stamp
     ·go_wp2
      go_roundw
      case rel=>exact ⟨k + 1,by omega,by go_num,x.stamp,x.dst,rfl,rfl,by show List.foldl _ _ _ = _; rw [HN.out,HE.out]; unfold ledStep; rw [hst]; simp [h1,h2],HB1⟩
      case measure=>simp [intOf]; omega
     ·go_wp2
      go_roundw
      case rel=>exact ⟨k + 1,by omega,by go_num,m,d,rfl,rfl,by show List.foldl _ _ _ = _; rw [HN.out,HE.out]; unfold ledStep; rw [hst,if_neg (by intro hh; simp at hh; omega)],HB1⟩
      case measure=>simp [intOf]; omega
    ·go_wp2
     go_roundw
     case rel=>exact ⟨k + 1,by omega,by go_num,m,d,rfl,rfl,by show List.foldl _ _ _ = _; rw [HN.out,HE.out]; unfold ledStep; rw [hst,if_neg (by intro hh; simp at hh; omega)],HB1⟩
     case measure=>simp [intOf]; omega
  ·have hke : k = M.es.length:=by omega
   have HF : Hid ((M.es.foldl (ledStep n s t) (-1,1)).2 = d):=by
    have:=HE.out
    rw [hke,List.take_length] at this;show (M.es.foldl (ledStep n s t) (-1,1)).2 = d;rw [this]
   clear HE hke;go_wp2;go_ret;exact ⟨ret_int HF.out.symm,HB.out.fr⟩
end
end
section
open Go.RowKit
inductive Tag where
 | store | spl | thl | log | round | noted | gone | lists
 | spot (i : Nat)
 | st (i : Nat) (s : Bool)
 | thread (i : Nat)
 | tr (i : Nat) (k : Nat)
 | oth (n : Nat)
 deriving DecidableEq
structure Zone where
 z : Nat
 tag : Tag
abbrev Own:=Nat->Zone
def Own.put (own : Own) (k z : Nat) (tag : Tag) : Own:=fun j=>if j = k then ⟨z,tag⟩ else own j
theorem Own.put_same (own : Own) (k z : Nat) (tag : Tag) : own.put k z tag k = ⟨z,tag⟩:=by simp [Own.put]
theorem Own.put_ne (own : Own) {k j : Nat} (z : Nat) (tag : Tag) (h : j≠k) : own.put k z tag j = own j:=by simp [Own.put,h]
def Ext (own own' : Own) (w : World) : Prop:=∀ k,k < w.heap.size->own' k = own k
theorem Ext.refl (own : Own) (w : World) : Ext own own w:=fun _ _=>rfl
theorem Ext.trans {own own1 own2 : Own} {w w1 : World} (h : Ext own own1 w) (k : Ext own1 own2 w1) (hs : w.heap.size<=w1.heap.size) : Ext own own2 w :=
 fun j hj=>(k j (Nat.lt_of_lt_of_le hj hs)).trans (h j hj)
theorem Ext.put {own : Own} {w : World} {k : Nat} (hk : w.heap.size<=k) (z : Nat) (tag : Tag) : Ext own (own.put k z tag) w:=fun j hj=>Own.put_ne own z tag (by omega)
theorem Ext.put' {own own' : Own} {w : World} {k : Nat} (h : Ext own own' w) {z : Nat} {tag : Tag} (hk : own k = ⟨z,tag⟩\/w.heap.size<=k) : Ext own (own'.put k z tag) w:=by
 intro j hj;by_cases e : j = k
 ·subst e;rcases hk with hk | hk
  ·rw [Own.put_same,hk]
  ·omega
 ·rw [Own.put_ne _ _ _ e]; exact h j hj
def FrT (own : Own) (z : Nat) (A : Tag->Prop) (w w' : World) : Prop:=Fr (fun k=>(own k).z = z/\A (own k).tag) w w'
def FrZ (own : Own) (z : Nat) (w w' : World) : Prop:=Fr (fun k=>(own k).z = z) w w'
theorem FrT.zone {own : Own} {z : Nat} {A : Tag->Prop} {w w' : World} (h : FrT own z A w w') : FrZ own z w w':=Fr.mono h (fun _ _ hk=>hk.1)
theorem FrT.of {own : Own} {z : Nat} {A : Tag->Prop} {w w' : World} {S : Nat->Prop} (h : Fr S w w') (hS : ∀ k,S k->(own k).z = z/\A (own k).tag) : FrT own z A w w':=Fr.mono h (fun k _ hk=>hS k hk)
theorem FrT.one {own : Own} {z b : Nat} {A : Tag->Prop} {w w' : World} {tag : Tag} (h : Fr (fun k=>k = b) w w') (hb : own b = ⟨z,tag⟩) (hA : A tag) : FrT own z A w w' :=
 FrT.of h (by rintro k rfl; rw [hb]; exact ⟨rfl,hA⟩)
theorem FrZ.trans {own own1 : Own} {z : Nat} {w w1 w2 : World} (h : FrZ own z w w1) (he : Ext own own1 w) (k : FrZ own1 z w1 w2) : FrZ own z w w2 :=
 Fr.transNew h k (fun i hi=>by
  by_cases hlt : i < w.heap.size
  ·left; rw [<- he i hlt]; exact hi
  ·right; omega)
structure Row (own : Own) (z : Nat) (w : World) (tag : Tag) (e : TypeId) (size : Nat) (v : Value) (n : Nat) (xs : List Value) : Prop where
 row : w.ownsRow 0 e size v n xs
 tg : ∀ k,v.ownBlock = some k->own k = ⟨z,tag⟩
theorem ownsRow_lt {w : World} {e : TypeId} {size : Nat} {v : Value} {n : Nat} {xs : List Value} (h : w.ownsRow 0 e size v n xs) {k : Nat} (hk : v.ownBlock = some k) : k < w.heap.size:=by
 rcases h.2 with ⟨rfl,_⟩ | ⟨g,cap,cur,rfl,_,hg,_⟩
 ·simp [Value.ownBlock] at hk
 ·simp [Value.ownBlock] at hk; subst hk; exact (Array.getElem?_eq_some_iff.1 hg).1
theorem Row.fr {own own' : Own} {z : Nat} {w w' : World} {tag : Tag} {e : TypeId} {size : Nat} {v : Value} {n : Nat} {xs : List Value} {S : Nat->Prop}
  (h : Row own z w tag e size v n xs) (hf : Fr S w w') (he : Ext own own' w) (hS : ∀ k,own k = ⟨z,tag⟩->¬ S k) : Row own' z w' tag e size v n xs :=
 ⟨hf.owns h.row (fun k hk=>hS k (h.tg k hk)),fun k hk=>by rw [he k (ownsRow_lt h.row hk)]; exact h.tg k hk⟩
theorem Row.nil (own : Own) (z : Nat) (w : World) (tag : Tag) (e : TypeId) (size : Nat) : Row own z w tag e size (.slice none 0 0) 0 [] :=
 ⟨⟨by simp,.inl ⟨rfl,rfl⟩⟩,by intro k hk; simp [Value.ownBlock] at hk⟩
def intCells (l : List Int) : List Value:=l.map (.int .i64)
def natCells (l : List Nat) : List Value:=l.map fun (k : Nat)=>.int .i64 k
def pairCells (p : Int × Int) : List Value:=[.int .i64 p.1,.int .i64 p.2]
def linkCells (p : Int × Bool) : List Value:=[.int .i64 p.1,.int .i64 (b2i p.2)]
structure ListsAt (own : Own) (z : Nat) (w : World) (v : Value) (ll : List (List (Int × Int))) : Prop where
 nil : ll = []->v = .slice none 0 0
 top : ∃ ins : List Value,ins.length = ll.length/\Row own z w .lists 47 1 v ll.length ins /\
  ∀ (i : Nat) (u : Value) (l : List (Int × Int)),ins[i]? = some u->ll[i]? = some l->Row own z w .lists 95 2 u l.length (l.flatMap pairCells)
section
variable {own own' : Own} {z : Nat} {w w' : World} {S : Nat->Prop}
theorem at_fr {b : Nat} {c : List Value} {e : TypeId} {tag : Tag} (h : At w b c e) (ho : own b = ⟨z,tag⟩) (hf : Fr S w w') (he : Ext own own' w) (hS : ∀ k,own k = ⟨z,tag⟩->¬ S k) : At w' b c e/\own' b = ⟨z,tag⟩ :=
 ⟨hf.at h (hS b ho),by rw [he b h.lt]; exact ho⟩
theorem ListsAt.fr {v : Value} {ll : List (List (Int × Int))} (h : ListsAt own z w v ll) (hf : Fr S w w') (he : Ext own own' w) (hS : ∀ k,own k = ⟨z,.lists⟩->¬ S k) : ListsAt own' z w' v ll:=by
 obtain ⟨ins,h1,h2,h3⟩:=h.top;exact ⟨h.nil,ins,h1,h2.fr hf he hS,fun i u l hu hl=>(h3 i u l hu hl).fr hf he hS⟩
theorem ListsAt.none (own : Own) (z : Nat) (w : World) : ListsAt own z w (.slice none 0 0) [] :=
 ⟨fun _=>rfl,[],rfl,Row.nil _ _ _ _ _ _,by intro i u l hu; simp at hu⟩
theorem not_tag {A : Tag->Prop} {tag : Tag} (h : ¬ A tag) : ∀ k,own k = ⟨z,tag⟩->¬ ((own k).z = z/\A (own k).tag):=by
 intro k hk hs; rw [hk] at hs; exact h hs.2
end
end
section
open Go.RowKit
def pmap {α : Type} (f : α->α) (l : List α) (k : Nat) : List α:=(l.take k).map f ++ l.drop k
theorem pmap_zero {α : Type} (f : α->α) (l : List α) : pmap f l 0 = l:=by simp [pmap]
theorem pmap_all {α : Type} (f : α->α) (l : List α) : pmap f l l.length = l.map f:=by simp [pmap]
theorem pmap_len {α : Type} (f : α->α) (l : List α) (k : Nat) (h : k<=l.length) : (pmap f l k).length = l.length:=by simp [pmap]; omega
theorem pmap_get {α : Type} (f : α->α) (l : List α) (k : Nat) (h : k < l.length) : (pmap f l k)[k]? = l[k]?:=by
 unfold pmap;rw [List.getElem?_append_right (by simp; omega),List.getElem?_drop]
 simp; congr 1; omega
theorem pmap_succ {α : Type} (f : α->α) (l : List α) (k : Nat) (x : α) (h : l[k]? = some x) : pmap f l (k + 1) = (pmap f l k).set k (f x):=by
 obtain ⟨hk,hx⟩:=List.getElem?_eq_some_iff.1 h;unfold pmap;rw [List.take_succ_eq_append_getElem hk,List.map_append,List.drop_eq_getElem_cons hk,hx];rw [List.set_append_right _ _ (by simp; omega)];simp [Nat.min_eq_left (Nat.le_of_lt hk)]
theorem pmap_skip {α : Type} (f : α->α) (l : List α) (k : Nat) (x : α) (h : l[k]? = some x) (hf : f x = x) : pmap f l (k + 1) = pmap f l k:=by
 obtain ⟨hk,hx⟩:=List.getElem?_eq_some_iff.1 h;unfold pmap;rw [List.take_succ_eq_append_getElem hk,List.map_append,List.drop_eq_getElem_cons hk,hx];simp [hf]
section
variable {w : World} {l : MLay} {M : PMem}
theorem Unlock_calls (h : MAt w l M) (t : Int) :
  Calls Tryz.prog 135 #[.pointer (some ⟨l.m,0,none⟩),.int .i64 t] w fun e w'=>e = .returned (.tuple #[])/\MAt w' l (M.unlock t)/\MFr l w w':=by
 have hs:=h.nsmall;have hc:=h.hd.cell;have H:=(mkH (MAt w l { M with ns:=pmap (unlocked t) M.ns 0 }) <|by rw [pmap_zero]; exact h);have hE : Hid (M.unlock t = { M with ns:=pmap (unlocked t) M.ns M.ns.length }):=by show _ = _; rw [pmap_all]; rfl
 clear h
 go_enter Tryz.func135,Tryz.ntmps135
 go_wp2;clear hc
 go_loopw [4,10] (fun _ i wr=>∃ k : Nat,k<=M.ns.length/\i = .int .i64 k/\Hid (MAt wr l { M with ns:=pmap (unlocked t) M.ns k })/\Hid (MFr l w wr)) (fun _ i _=>M.ns.length - (intOf i).toNat)
 case atStart=>exact ⟨0,Nat.zero_le _,rfl,H,.of0 (Fr.refl _ _)⟩
 case round =>
  clear H;obtain ⟨k,hk,rfl,H,HF⟩:=hrel;have hc:=H.out.hd.cell;rw [show (({ M with ns:=pmap (unlocked t) M.ns k } : PMem).ns).length = M.ns.length from pmap_len _ _ _ hk] at hc;by_cases hlt : k < M.ns.length
  ·have hx : Hid (M.ns[k]? = some M.ns[k]):=List.getElem?_eq_getElem hlt;generalize M.ns[k] = x at hx;have hx' : Hid ((pmap (unlocked t) M.ns k)[k]? = some x):=by show _ = _; rw [pmap_get _ _ _ hlt]; exact hx.out
   have c5:=MemAt.node H.out hx'.out (j:=5) (u:=.bool x.used) rfl;have c6:=MemAt.node H.out hx'.out (j:=6) (u:=.int .i64 x.holder) rfl;have hf:=ownsRow_frozen H.out.nodes;have hskip : Hid (unlocked t x = x->MAt wr l { M with ns:=pmap (unlocked t) M.ns (k + 1) }):=by
    intro e; rw [pmap_skip _ _ _ x hx.out e]; exact H.out
   cases hu : x.used
   ·rw [hu] at c5;go_wp2
    go_roundw
    case rel=>exact ⟨k + 1,by omega,by go_num,hskip.out (by simp [unlocked,hu]),HF⟩
    case measure=>simp [intOf]; omega
   ·rw [hu] at c5;cases hh : (x.holder == t)
    ·go_wp2
     go_roundw
     case rel=>exact ⟨k + 1,by omega,by go_num,hskip.out (by simp [unlocked,hu,hh]),HF⟩
     case measure=>simp [intOf]; omega
    ·have hset : Hid (MAt (wr.setCell ⟨l.nb,k * 10 + 6,none⟩ (.int .i64 (-1))) l { M with ns:=pmap (unlocked t) M.ns (k + 1) }):=by
      show MAt _ _ _;rw [pmap_succ _ _ _ x hx.out];exact MemAt.setNode H.out hx'.out 6 (unlocked t x) (.int .i64 (-1)) (by decide) (by simp [unlocked,hu,hh,PNode.cells])
     have hF2 : Hid (MFr l w (wr.setCell ⟨l.nb,k * 10 + 6,none⟩ (.int .i64 (-1)))):=Fr.setIn (.inl rfl) HF.out _ _;go_wp2
     go_roundw
     case rel=>exact ⟨k + 1,by omega,by go_num,hset,hF2⟩
     case measure=>simp [intOf]; omega
  ·have hk' : k = M.ns.length:=by omega
   subst hk';go_wp2
   go_end0
   exact ⟨rfl,by rw [hE.out]; exact H.out,HF.out⟩
def freed (n : Int) (e : PEntry) : PEntry:=if ofNode n e then PEntry.zero else e
theorem Free_calls (h : MAt w l M) (n : Int) :
  Calls Tryz.prog 90 #[.pointer (some ⟨l.m,0,none⟩),.int .i64 n] w fun e w'=>e = .returned (.tuple #[])/\MAt w' l (M.free n)/\MFr l w w':=by
 have hs:=h.nsmall;have hes:=h.esmall;have hc:=h.hd.cell;have H:=(mkH (MAt w l M) <|h);clear h
 go_enter Tryz.func90,Tryz.ntmps90
 go_wp2_with fail;refine (hasNode_calls H.out _).mono ?_;rintro e w' ⟨rfl,rfl⟩;cases hn : M.hasNode n
 ·have hE : Hid (M.free n = M):=by show _ = _; simp [PMem.free,hn]
  go_wp2;refine bodyPost_ret (results_none rfl _ _ _) rfl ?_;exact ⟨rfl,by rw [hE.out]; exact H.out,.of0 (Fr.refl _ _)⟩
 ·cases h0 : (n == 0)
  ·cases h1 : (n == 1)
   ·have hE : Hid (M.free n = { ns:=M.ns.set n.toNat PNode.zero,es:=pmap (freed n) M.es M.es.length }):=by
     show _ = _; rw [pmap_all]; simp [PMem.free,hn,bne,h0,h1,freed]
    have HN:=(mkH (M.hasNode n = true) <|hn);have H0:=(mkH (MAt w' l { M with es:=pmap (freed n) M.es 0 }) <|by rw [pmap_zero]; exact H.out);clear H hn;go_wp2;clear hc
    go_loopw [4,22] (fun _ i wr=>∃ k : Nat,k<=M.es.length/\i = .int .i64 k/\Hid (MAt wr l { M with es:=pmap (freed n) M.es k })/\Hid (MFr l w' wr)) (fun _ i _=>M.es.length - (intOf i).toNat)
    case atStart=>exact ⟨0,Nat.zero_le _,rfl,H0,.of0 (Fr.refl _ _)⟩
    case round =>
     clear H0;obtain ⟨k,hk,rfl,H,HF⟩:=hrel;have hc:=H.out.hd.cell;rw [show (({ M with es:=pmap (freed n) M.es k } : PMem).es).length = M.es.length from pmap_len _ _ _ hk] at hc;by_cases hlt : k < M.es.length
     ·have hx : Hid (M.es[k]? = some M.es[k]):=List.getElem?_eq_getElem hlt;generalize M.es[k] = x at hx;have hx' : Hid ((pmap (freed n) M.es k)[k]? = some x):=by show _ = _; rw [pmap_get _ _ _ hlt]; exact hx.out
      have c0:=MemAt.ent H.out hx'.out (j:=0) (u:=.bool x.used) rfl;have c1:=MemAt.ent H.out hx'.out (j:=1) (u:=.bool x.pending) rfl;have c2:=MemAt.ent H.out hx'.out (j:=2) (u:=.int .i64 x.src) rfl;have c3:=MemAt.ent H.out hx'.out (j:=3) (u:=.int .i64 (b2i x.side)) rfl;have c4:=MemAt.ent H.out hx'.out (j:=4) (u:=.int .i64 x.dst) rfl;have c5:=MemAt.ent H.out hx'.out (j:=5) (u:=.int .i64 x.stamp) rfl;rw [Nat.add_zero] at c0;have hf:=ownsRow_frozen H.out.ents;have hskip : Hid (freed n x = x->MAt wr l { M with es:=pmap (freed n) M.es (k + 1) }):=by
       intro e; rw [pmap_skip _ _ _ x hx.out e]; exact H.out
      cases hu : x.used
      ·rw [hu] at c0;go_wp2
       go_roundw
       case rel=>exact ⟨k + 1,by omega,by go_num,hskip.out (by simp [freed,ofNode,hu]),HF⟩
       case measure=>simp [intOf]; omega
      ·rw [hu] at c0;cases hh : (x.src == n)
       ·go_wp2
        go_roundw
        case rel=>exact ⟨k + 1,by omega,by go_num,hskip.out (by simp [freed,ofNode,hu,hh]),HF⟩
        case measure=>simp [intOf]; omega
       ·have hset:=MemAt.putEnt H.out hx'.out PEntry.zero;have hfx : freed n x = PEntry.zero:=by simp [freed,ofNode,hu,hh]
        rw [<- hfx,<- pmap_succ _ _ _ x hx.out] at hset;have HS:=(mkH (MAt _ l { M with es:=pmap (freed n) M.es (k + 1) }) <|hset);rw [hfx] at HS;clear hset hfx;go_wp2
        go_roundw
        case rel =>
         refine ⟨k + 1,by omega,by go_num,HS,?_⟩;refine Fr.trans HF.out ?_
         repeat (with_reducible first | refine Fr.setIn (.inr rfl) ?_ _ _ | refine Fr.drewN ?_ _ | refine Fr.drew ?_ | exact Fr.refl _ _)
        case measure=>simp [intOf]; omega
     ·have hk' : k = M.es.length:=by omega
      subst hk';obtain ⟨k,x,rfl,hlt',hx,_⟩:=hasNode_get HN.out;have HX:=(mkH (M.ns[k]? = some x) <|hx);have c0:=MemAt.node H.out HX.out (j:=0) (u:=.int .i64 x.key) rfl;have c1:=MemAt.node H.out HX.out (j:=1) (u:=.int .i64 x.value) rfl;have c2:=MemAt.node H.out HX.out (j:=2) (u:=.bool x.dead) rfl;have c3:=MemAt.node H.out HX.out (j:=3) (u:=.bool x.retired) rfl;have c4:=MemAt.node H.out HX.out (j:=4) (u:=.int .i64 x.retiredAt) rfl;have c5:=MemAt.node H.out HX.out (j:=5) (u:=.bool x.used) rfl;have c6:=MemAt.node H.out HX.out (j:=6) (u:=.int .i64 x.holder) rfl;have c7:=MemAt.node H.out HX.out (j:=7) (u:=.int .i64 x.links) rfl;have c8:=MemAt.node H.out HX.out (j:=8) (u:=.int .i64 (x.leads false)) rfl;have c9:=MemAt.node H.out HX.out (j:=9) (u:=.int .i64 (x.leads true)) rfl;have hf:=ownsRow_frozen H.out.nodes;rw [Nat.add_zero] at c0;clear hx;go_wp2
      go_end0
      rw [hE.out];refine ⟨rfl,MemAt.putNode H.out HX.out PNode.zero,Fr.trans HF.out ?_⟩
      repeat (with_reducible first | refine Fr.setIn (.inl rfl) ?_ _ _ | refine Fr.drewN ?_ _ | refine Fr.drew ?_ | exact Fr.refl _ _)
   ·have hE : Hid (M.free n = M):=by show _ = _; simp [PMem.free,bne,h1]
    go_wp2;refine bodyPost_ret (results_none rfl _ _ _) rfl ?_;exact ⟨rfl,by rw [hE.out]; exact H.out,.of0 (Fr.refl _ _)⟩
  ·have hE : Hid (M.free n = M):=by show _ = _; simp [PMem.free,bne,h0]
   go_wp2;refine bodyPost_ret (results_none rfl _ _ _) rfl ?_;exact ⟨rfl,by rw [hE.out]; exact H.out,.of0 (Fr.refl _ _)⟩
end
end
section
open Go.RowKit
theorem count_take {α : Type} (p : α->Bool) (l : List α) (k : Nat) (x : α) (hx : l[k]? = some x) : count p (l.take (k + 1)) = count p (l.take k) + if p x then 1 else 0:=by
 have hk:=(List.getElem?_eq_some_iff.1 hx).1;have he:=(List.getElem?_eq_some_iff.1 hx).2;unfold count;rw [List.take_succ_eq_append_getElem hk,List.filter_append,List.length_append,he];by_cases h : p x = true <;> simp [h]
theorem count_le {α : Type} (p : α->Bool) (l : List α) (k : Nat) : count p (l.take k)<=k:=by
 unfold count
 have:=List.length_filter_le p (l.take k)
 have:=List.length_take_le k l
 omega
section
variable {w : World} {l : MLay} {M : PMem}
theorem MRoom_calls (h : MAt w l M) :
  Calls Tryz.prog 61 #[.pointer (some ⟨l.m,0,none⟩)] w fun e w'=>e = .returned (.tuple #[.int .i64 M.room.1,.int .i64 M.room.2])/\w' = w:=by
 have hc:=h.hd.cell;have hs:=h.esmall;have hn:=h.nsmall;have H : Hid (MAt w l M):=h;clear h
 go_enter Tryz.func61,Tryz.ntmps61
 go_wp2
 go_loop [4,5,13] (fun c _ i=>∃ k : Nat,k<=M.ns.length/\i = .int .i64 k/\c = .int .i64 (count (fun x=>!x.used) (M.ns.take k))) (fun _ _ i=>M.ns.length - (intOf i).toNat)
 case atStart=>exact ⟨0,Nat.zero_le _,rfl,rfl⟩
 case round =>
  obtain ⟨k,hk,rfl,rfl⟩:=hrel;have hb:=count_le (fun x : PNode=>!x.used) M.ns k;by_cases hlt : k < M.ns.length
  ·have hx : Hid (M.ns[k]? = some M.ns[k]):=List.getElem?_eq_getElem hlt;generalize M.ns[k] = x at hx;have c0:=MemAt.node H.out hx.out (j:=5) (u:=.bool x.used) rfl;have hn : Hid (count (fun x=>!x.used) (M.ns.take (k + 1)) = count (fun x=>!x.used) (M.ns.take k) + if !x.used then 1 else 0):=count_take _ M.ns k x hx.out;cases hu : x.used
   ·rw [hu] at c0 hn;go_wp2
    go_round
    case rel=>exact ⟨k + 1,by omega,by go_num,by rw [hn.out]; go_num⟩
    case measure=>simp [intOf]; omega
   ·rw [hu] at c0 hn;go_wp2
    go_round
    case rel=>exact ⟨k + 1,by omega,by go_num,by rw [hn.out]; go_num⟩
    case measure=>simp [intOf]; omega
  ·have hk' : k = M.ns.length:=by omega
   subst hk';rw [List.take_length];clear hb;go_wp2
   go_loop [6,7,33] (fun c _ i=>∃ k : Nat,k<=M.es.length/\i = .int .i64 k/\c = .int .i64 (count (fun x=>!x.used) (M.es.take k))) (fun _ _ i=>M.es.length - (intOf i).toNat)
   case atStart=>exact ⟨0,Nat.zero_le _,rfl,rfl⟩
   case round =>
    obtain ⟨k,hk,rfl,rfl⟩:=hrel;have hb:=count_le (fun x : PEntry=>!x.used) M.es k;by_cases hlt : k < M.es.length
    ·have hx : Hid (M.es[k]? = some M.es[k]):=List.getElem?_eq_getElem hlt;generalize M.es[k] = x at hx;have c0:=MemAt.ent H.out hx.out (j:=0) (u:=.bool x.used) rfl;rw [Nat.add_zero] at c0;have hn : Hid (count (fun x=>!x.used) (M.es.take (k + 1)) = count (fun x=>!x.used) (M.es.take k) + if !x.used then 1 else 0):=count_take _ M.es k x hx.out;cases hu : x.used
     ·rw [hu] at c0 hn;go_wp2
      go_round
      case rel=>exact ⟨k + 1,by omega,by go_num,by rw [hn.out]; go_num⟩
      case measure=>simp [intOf]; omega
     ·rw [hu] at c0 hn;go_wp2
      go_round
      case rel=>exact ⟨k + 1,by omega,by go_num,by rw [hn.out]; go_num⟩
      case measure=>simp [intOf]; omega
    ·have hk' : k = M.es.length:=by omega
     subst hk';rw [List.take_length];clear hb;go_wp2;go_ret2;exact ⟨rfl,rfl⟩
end
end
section
open Go.RowKit
theorem Tryz.infoNode : (Tryz.prog.info? 131).map (fun i=>(i.zero,i.size,i.bytes)) = some (some (.agg PNode.zero.cells.toArray),10,72):=by kernel_rfl
theorem Tryz.infoEntry : (Tryz.prog.info? 133).map (fun i=>(i.zero,i.size,i.bytes)) = some (some (.agg PEntry.zero.cells.toArray),6,40):=by kernel_rfl
def anchorNode : PNode:={ PNode.zero with used:=true,holder:=-1 }
def endNode : PNode:={ PNode.zero with key:=1099511627777,used:=true,holder:=-1 }
def freshNodes (k : Nat) : List PNode:=anchorNode :: endNode :: List.replicate k PNode.zero
def freshMem (nn en : Nat) : PMem:=((⟨freshNodes nn,List.replicate en PEntry.zero⟩ : PMem).addLink 0 1).stampNew 0 0
theorem freshNodes_succ (k : Nat) : (freshNodes (k + 1)).flatMap PNode.cells = (freshNodes k).flatMap PNode.cells ++ PNode.zero.cells:=by
 simp only [freshNodes,List.replicate_succ',List.flatMap_cons,List.flatMap_append,List.append_assoc,List.flatMap_nil,List.append_nil]
theorem freshEnts_succ (k : Nat) : (List.replicate (k + 1) PEntry.zero).flatMap PEntry.cells = (List.replicate k PEntry.zero).flatMap PEntry.cells ++ PEntry.zero.cells:=by
 simp only [List.replicate_succ',List.flatMap_cons,List.flatMap_append,List.flatMap_nil,List.append_nil]
structure MemGrows (B : Nat) (w wr : World) (m : Nat) (nv ev : Value) (a b : Nat) (xs ys : List Value) : Prop where
 hd : At wr m [nv,ev] 128
 nodes : wr.ownsRow B 131 10 nv a xs
 ents : wr.ownsRow B 133 6 ev b ys
 fr : Fr (fun _=>False) w wr
 base : w.heap.size = B
 hm : B<=m
section
variable {B : Nat} {w wr w1 : World} {m : Nat} {nv ev : Value} {a b : Nat} {xs ys : List Value}
theorem MemGrows.pushN (h : MemGrows B w wr m nv ev a b xs ys) {g cap : Nat} {c x : List Value} {e : TypeId} (ho : w1.ownsRow B 131 10 (.slice (some ⟨g,0,none⟩) (a + 1) cap) (a + 1) (xs ++ x))
  (hg : (wr.alloc (.cells c.toArray e)).grownBy w1 nv.ownBlock) : At w1 m [nv,ev] 128 /\
  MemGrows B w (w1.setCell ⟨m,0,none⟩ (.slice (some ⟨g,0,none⟩) (a + 1) cap)) m (.slice (some ⟨g,0,none⟩) (a + 1) cap) ev (a + 1) b (xs ++ x) ys:=by
 have hA : At w1 m [nv,ev] 128:=(h.hd.alloc _).grown hg (h.hd.ne_row (ownsRow_base h.nodes) (by decide));have he : w1.ownsRow B 133 6 ev b ys:=(h.ents.alloc _).kept hg (ownsRow_ne (ownsRow_base h.ents) (ownsRow_base h.nodes) (by decide));refine ⟨hA,hA.set 0 _,?_,?_,?_,h.base,h.hm⟩
 ·exact ownsRow_setOtherB ho (hA.ne_row (ownsRow_base ho) (by decide)) _
 ·exact ownsRow_setOtherB he (hA.ne_row (ownsRow_base he) (by decide)) _
 ·refine Fr.setNew (by rw [h.base]; exact h.hm) ((h.fr.alloc _).grown hg ?_) _ _;intro k hk; right; rw [h.base]; exact (h.nodes.lt k hk).1
theorem MemGrows.pushE (h : MemGrows B w wr m nv ev a b xs ys) {g cap : Nat} {c : List Value} {e : TypeId} (ho : w1.ownsRow B 133 6 (.slice (some ⟨g,0,none⟩) (b + 1) cap) (b + 1) (ys ++ PEntry.zero.cells))
  (hg : (wr.alloc (.cells c.toArray e)).grownBy w1 ev.ownBlock) : At w1 m [nv,ev] 128 /\
  MemGrows B w (w1.setCell ⟨m,1,none⟩ (.slice (some ⟨g,0,none⟩) (b + 1) cap)) m nv (.slice (some ⟨g,0,none⟩) (b + 1) cap) a (b + 1) xs (ys ++ PEntry.zero.cells):=by
 have hA : At w1 m [nv,ev] 128:=(h.hd.alloc _).grown hg (h.hd.ne_row (ownsRow_base h.ents) (by decide));have he : w1.ownsRow B 131 10 nv a xs:=(h.nodes.alloc _).kept hg (ownsRow_ne (ownsRow_base h.nodes) (ownsRow_base h.ents) (by decide));refine ⟨hA,hA.set 1 _,?_,?_,?_,h.base,h.hm⟩
 ·exact ownsRow_setOtherB he (hA.ne_row (ownsRow_base he) (by decide)) _
 ·exact ownsRow_setOtherB ho (hA.ne_row (ownsRow_base ho) (by decide)) _
 ·refine Fr.setNew (by rw [h.base]; exact h.hm) ((h.fr.alloc _).grown hg ?_) _ _;intro k hk; right; rw [h.base]; exact (h.ents.lt k hk).1
end
theorem MNew_calls (w : World) (nn en : Nat) (hn : nn<=64) (he : en<=256) (he1 : 1<=en) :
  Calls Tryz.prog 59 #[.int .i64 nn,.int .i64 en] w fun e w'=>∃ l : MLay,e = .returned (.pointer (some ⟨l.m,0,none⟩)) /\
   MAt w' l (freshMem nn en)/\Fr (fun _=>False) w w'/\w.heap.size<=l.m/\w.heap.size<=l.nb/\w.heap.size<=l.eb:=by
 obtain ⟨iN,hiN,hzN,hsN,hbN⟩:=info_parts Tryz.infoNode;obtain ⟨iE,hiE,hzE,hsE,hbE⟩:=info_parts Tryz.infoEntry;have G0 : MemGrows w.heap.size w (w.alloc (.cells [.slice none 0 0,.slice none 0 0].toArray 128)) w.heap.size (.slice none 0 0) (.slice none 0 0) 0 0 [] [] :=
  ⟨At.newAt rfl _ _,World.ownsRow_nil _ _ _ _,World.ownsRow_nil _ _ _ _,(Fr.refl _ _).alloc _,rfl,Nat.le_refl _⟩
 have HG0:=(mkH (MemGrows _ _ _ _ _ _ _ _ _ _) <|G0);clear G0
 go_enter Tryz.func59,Tryz.ntmps59
 go_wp2_with (at_builtin; refine wpList_push _ rfl _ _ 125 rfl w.heap.size 131 iN (.agg PNode.zero.cells.toArray) 10 72 Tryz.underlying125 hiN hzN hsN hbN rfl (by decide) _ 0 [] rfl (World.ownsRow_nil _ _ _ _) (w.heap.size + 1) anchorNode.cells rfl rfl 131 (At.newAt (by simp) _ _) (PNode.cells_one _) (by decide) (by decide) (by simp; omega) ?_);intro g cap w1 hown hg hge;have R:=HG0.out.pushN (c:=anchorNode.cells) (x:=anchorNode.cells) (e:=131) (by simpa using hown) hg;obtain ⟨hA,hG⟩:=R;have hc:=hA.cell;have hz:=hA.frozen;have HG1:=(mkH (MemGrows _ _ _ _ _ _ _ _ _ _) <|hG);have hsz:=HG1.out.fr.size;rw [World.size_setCell] at hsz;clear hA hown hg hG HG0;go_wp2_with (at_builtin; refine wpList_push _ rfl _ _ 125 rfl w.heap.size 131 iN (.agg PNode.zero.cells.toArray) 10 72 Tryz.underlying125 hiN hzN hsN hbN rfl (by decide) _ (0 + 1) ([] ++ anchorNode.cells) rfl (ownsRow_alloc HG1.out.nodes _) w1.heap.size endNode.cells rfl rfl 131 (At.newAt (by simp) _ _) (PNode.cells_one _) (by decide) (by decide) (by simp; omega) ?_);intro g2 cap2 w2 hown hg hge2;have R:=HG1.out.pushN (c:=endNode.cells) (x:=endNode.cells) (e:=131) (by simpa using hown) hg;obtain ⟨hA,hG⟩:=R;have hc:=hA.cell;have hz:=hA.frozen;have HG2 : Hid (MemGrows w.heap.size w (w2.setCell ⟨w.heap.size,0,none⟩ (.slice (some ⟨g2,0,none⟩) (0 + 1 + 1) cap2)) w.heap.size (.slice (some ⟨g2,0,none⟩) (0 + 2) cap2) (.slice none 0 0) (0 + 2) 0 ((freshNodes 0).flatMap PNode.cells) []):=by
  have e : (freshNodes 0).flatMap PNode.cells = ([] ++ anchorNode.cells) ++ endNode.cells:=by simp [freshNodes]
  rw [e]; exact hG
 clear hA hown hg hG HG1 hsz;go_wp2_with fail;clear hc hz
 go_loopw [6] (fun i wr=>∃ k g cap : Nat,k<=nn/\i = .int .i64 k/\Hid (MemGrows w.heap.size w wr w.heap.size (.slice (some ⟨g,0,none⟩) (k + 2) cap) (.slice none 0 0) (k + 2) 0 ((freshNodes k).flatMap PNode.cells) [])) (fun i _=>nn - (intOf i).toNat)
 case atStart=>exact ⟨0,g2,cap2,Nat.zero_le _,rfl,HG2⟩
 case round =>
  obtain ⟨k,g,cap,hk,rfl,HG⟩:=hrel;have hc:=HG.out.hd.cell;have hz:=HG.out.hd.frozen;have hsz:=HG.out.fr.size;have hlt:=HG.out.hd.lt;by_cases hkn : k < nn
  ·go_wp2_with (at_builtin; refine wpList_push _ rfl _ _ 125 rfl w.heap.size 131 iN (.agg PNode.zero.cells.toArray) 10 72 Tryz.underlying125 hiN hzN hsN hbN rfl (by decide) _ (k + 2) _ rfl (ownsRow_alloc HG.out.nodes _) wr.heap.size PNode.zero.cells rfl rfl 131 (At.newAt (by simp) _ _) (PNode.cells_one _) (by unfold maxLen; omega) (by omega) (by simp; omega) ?_);intro g' cap' w' hown hg hge';have R:=HG.out.pushN (c:=PNode.zero.cells) (x:=PNode.zero.cells) (e:=131) hown hg;obtain ⟨hA,hG⟩:=R;have hc:=hA.cell;have hz:=hA.frozen;rw [<- freshNodes_succ,show k + 2 + 1 = k + 1 + 2 by omega] at hG;have HG':=(mkH (MemGrows _ _ _ _ _ _ _ _ _ _) <|hG);clear hA hown hg hG HG hsz hlt;go_wp2
   go_roundw
   case rel=>exact ⟨k + 1,g',cap',by omega,by go_num,HG'⟩
   case measure=>simp [intOf]; omega
  ·have hkn' : k = nn:=by omega
   subst hkn';clear hlt hsz;go_wp2_with fail;clear hc hz
   go_loopw [7] (fun i wr=>∃ (j : Nat) (ev : Value),j<=en/\i = .int .i64 j/\Hid (MemGrows w.heap.size w wr w.heap.size (.slice (some ⟨g,0,none⟩) (k + 2) cap) ev (k + 2) j ((freshNodes k).flatMap PNode.cells) ((List.replicate j PEntry.zero).flatMap PEntry.cells))) (fun i _=>en - (intOf i).toNat)
   case atStart=>exact ⟨0,_,Nat.zero_le _,rfl,HG⟩
   case round =>
    obtain ⟨j,ev,hj,rfl,HG⟩:=hrel;have hc:=HG.out.hd.cell;have hz:=HG.out.hd.frozen;have hsz:=HG.out.fr.size;have hlt:=HG.out.hd.lt;by_cases hjn : j < en
    ·go_wp2_with (at_builtin; refine wpList_push _ rfl _ _ 126 rfl w.heap.size 133 iE (.agg PEntry.zero.cells.toArray) 6 40 Tryz.underlying126 hiE hzE hsE hbE rfl (by decide) _ j _ rfl (ownsRow_alloc HG.out.ents _) wr.heap.size PEntry.zero.cells rfl rfl 133 (At.newAt (by simp) _ _) (PEntry.cells_one _) (by unfold maxLen; omega) (by omega) (by simp; omega) ?_);intro g' cap' w' hown hg hge';have R:=HG.out.pushE (c:=PEntry.zero.cells) (e:=133) hown hg;obtain ⟨hA,hG⟩:=R;have hc:=hA.cell;have hz:=hA.frozen;rw [<- freshEnts_succ] at hG;have HG':=(mkH (MemGrows _ _ _ _ _ _ _ _ _ _) <|hG);clear hA hown hg hG HG hsz hlt;go_wp2
     go_roundw
     case rel=>exact ⟨j + 1,_,by omega,by go_num,HG'⟩
     case measure=>simp [intOf]; omega
    ·have hjn' : j = en:=by omega
     subst hjn';obtain ⟨eb,ecap,rfl,_⟩:=ownsRow_shape (ownsRow_base HG.out.ents) (by omega);have hM : MemAt wr w.heap.size g cap eb ecap (freshNodes k) (List.replicate j PEntry.zero):=by
      have l1 : (freshNodes k).length = k + 2:=by simp [freshNodes]
      refine ⟨?_,?_,?_,by omega,by simpa using he⟩
      ·rw [l1,List.length_replicate]; exact HG.out.hd
      ·rw [l1]; exact ownsRow_base HG.out.nodes
      ·rw [List.length_replicate]; exact ownsRow_base HG.out.ents
     have hfr:=HG.out.fr;have hgb:=(HG.out.nodes.lt g rfl).1;have heb:=(HG.out.ents.lt eb rfl).1;have HM : Hid (MemAt wr w.heap.size g cap eb ecap (freshNodes k) (List.replicate j PEntry.zero)):=hM;have HF : Hid (Fr (fun _=>False) w wr):=hfr;clear hM hfr HG hc hz hsz hlt;go_wp2_with fail;refine (AddLink_calls (l:=⟨w.heap.size,g,cap,eb,ecap⟩) (M:=⟨freshNodes k,List.replicate j PEntry.zero⟩) HM.out 0 1).mono ?_;rintro e w5 ⟨rfl,hM5,hF5⟩;have HM5:=(mkH (MAt w5 ⟨w.heap.size,g,cap,eb,ecap⟩ _) <|hM5);have HF5:=(mkH (MFr _ wr w5) <|hF5);clear hM5 hF5;go_wp2_with fail;refine (StampNew_calls HM5.out 0 0).mono ?_;rintro e w6 ⟨rfl,hM6,hF6⟩;have HM6:=(mkH (MAt w6 ⟨w.heap.size,g,cap,eb,ecap⟩ _) <|hM6);have HF6:=(mkH (MFr _ w5 w6) <|hF6);clear hM6 hF6;go_wp2;go_ret;refine ⟨⟨w.heap.size,g,cap,eb,ecap⟩,rfl,HM6.out,?_,Nat.le_refl _,hgb,heb⟩;exact Fr.transNew (Fr.transNew HF.out HF5.out (by rintro k (rfl | rfl); exact .inr hgb; exact .inr heb)) HF6.out (by rintro k (rfl | rfl); exact .inr hgb; exact .inr heb)
end
end Go.Proofs.YtfccelbmacjifabGreat
