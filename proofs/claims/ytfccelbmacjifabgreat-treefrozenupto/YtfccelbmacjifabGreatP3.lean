import Derived.Test.YtfccelbmacjifabGreatP0
import Derived.Test.YtfccelbmacjifabGreatP1
set_option linter.unusedSimpArgs false
set_option maxRecDepth 100000
set_option maxHeartbeats 4000000
namespace Go.Proofs.YtfccelbmacjifabGreat
section
open Go.RowKit
section
variable {w : World} {l : MLay} {M : PMem}
theorem freeNode_calls (h : MAt w l M) :
  Calls Tryz.prog 141 #[.pointer (some ⟨l.m,0,none⟩)] w fun e w'=>e = .returned (.int .i64 M.freeNode)/\w' = w:=by
 have hc:=h.hd.cell;have hs:=h.nsmall;have H : Hid (MAt w l M):=h;clear h;unfold PMem.freeNode
 go_enter Tryz.func141,Tryz.ntmps141
 go_wp2
 go_loop [3,9] (fun _ i=>∃ k : Nat,k<=M.ns.length/\i = .int .i64 k/\Hid (∀ j,j < k->∀ x,M.ns[j]? = some x->(!x.used) = false)) (fun _ i=>M.ns.length - (intOf i).toNat)
 case atStart=>exact ⟨0,Nat.zero_le _,rfl,fun j hj=>by omega⟩
 case round =>
  obtain ⟨k,hk,rfl,hall⟩:=hrel;by_cases hlt : k < M.ns.length
  ·have hx : Hid (M.ns[k]? = some M.ns[k]):=List.getElem?_eq_getElem hlt;generalize M.ns[k] = x at hx;have c0:=MemAt.node H.out hx.out (j:=5) (u:=.bool x.used) rfl;by_cases hu : (!x.used) = true
   ·have hf : Hid (find (fun x=>!x.used) M.ns 0 = k):=find_hit _ M.ns k x hx.out hall.out hu;go_wp2;go_ret;exact ⟨ret_int hf.out.symm,rfl⟩
   ·have hu' : (!x.used) = false:=by simpa using hu
    have hnext : Hid (∀ j,j < k + 1->∀ x,M.ns[j]? = some x->(!x.used) = false):=by
     intro j hj y hy;by_cases e : j = k
     ·subst e; rw [hx.out] at hy; obtain rfl:=Option.some.inj hy; exact hu'
     ·exact hall.out j (by omega) y hy
    go_wp2
    go_round
    case rel=>exact ⟨k + 1,by omega,by go_num,hnext⟩
    case measure=>simp [intOf]; omega
  ·have hf : Hid (find (fun x=>!x.used) M.ns 0 = -1):=find_miss _ M.ns (fun j hj y hy=>hall.out j (by omega) y hy);go_wp2;go_ret;exact ⟨ret_int hf.out.symm,rfl⟩
theorem hasNode_get {n : Int} (h : M.hasNode n = true) : ∃ (k : Nat) (x : PNode),n = k/\k < M.ns.length/\M.ns[k]? = some x/\M.node n = x:=by
 obtain ⟨h0,h1⟩:=isIn_iff.1 h;obtain ⟨k,rfl⟩:=Int.eq_ofNat_of_zero_le h0;have hlt : k < M.ns.length:=by omega
 refine ⟨k,M.ns[k],rfl,hlt,List.getElem?_eq_getElem hlt,?_⟩;unfold PMem.node; rw [h]; simp [hlt]
theorem node_no {n : Int} (h : M.hasNode n = false) : M.node n = PNode.zero:=by unfold PMem.node; rw [h]; simp
theorem Make_calls (h : MAt w l M) (key value : Int) :
  Calls Tryz.prog 136 #[.pointer (some ⟨l.m,0,none⟩),.int .i64 key,.int .i64 value] w fun e w'=>e = .returned (.int .i64 (M.make key value).2)/\MAt w' l (M.make key value).1/\MFr l w w':=by
 have hs:=h.nsmall;have hc:=h.hd.cell;have H:=(mkH (MAt w l M) <|h);clear h
 go_enter Tryz.func136,Tryz.ntmps136
 go_wp2_with fail;refine (freeNode_calls H.out).mono ?_;rintro e w' ⟨rfl,rfl⟩;go_wp2_with fail;refine (hasNode_calls H.out _).mono ?_;rintro e w' ⟨rfl,rfl⟩;cases he : M.hasNode M.freeNode
 ·have hE : Hid (M.make key value = (M,-1)):=by show _ = _; simp [PMem.make,he]
  go_wp2;go_ret;rw [hE.out];exact ⟨rfl,H.out,.of0 (Fr.refl _ _)⟩
 ·have hE : Hid (M.make key value = ({ M with ns:=M.ns.set M.freeNode.toNat (PNode.made key value) },M.freeNode)):=by show _ = _; simp [PMem.make,he]
  obtain ⟨k,x,hk,hlt,hx,_⟩:=hasNode_get he;rw [hk] at hE ⊢;have HX:=(mkH (M.ns[k]? = some x) <|hx);have c0:=MemAt.node H.out HX.out (j:=0) (u:=.int .i64 x.key) rfl;have c1:=MemAt.node H.out HX.out (j:=1) (u:=.int .i64 x.value) rfl;have c2:=MemAt.node H.out HX.out (j:=2) (u:=.bool x.dead) rfl;have c3:=MemAt.node H.out HX.out (j:=3) (u:=.bool x.retired) rfl;have c4:=MemAt.node H.out HX.out (j:=4) (u:=.int .i64 x.retiredAt) rfl;have c5:=MemAt.node H.out HX.out (j:=5) (u:=.bool x.used) rfl;have c6:=MemAt.node H.out HX.out (j:=6) (u:=.int .i64 x.holder) rfl;have c7:=MemAt.node H.out HX.out (j:=7) (u:=.int .i64 x.links) rfl;have c8:=MemAt.node H.out HX.out (j:=8) (u:=.int .i64 (x.leads false)) rfl;have c9:=MemAt.node H.out HX.out (j:=9) (u:=.int .i64 (x.leads true)) rfl;have hf:=ownsRow_frozen H.out.nodes;rw [Nat.add_zero] at c0;clear he hk hx;go_wp2;go_ret;rw [hE.out];refine ⟨rfl,?_,?_⟩
  ·exact MemAt.putNode H.out HX.out (PNode.made key value)
  ·unfold MFr
   repeat (with_reducible first | refine Fr.setIn (.inl rfl) ?_ _ _ | refine Fr.drewN ?_ _ | refine Fr.drew ?_ | exact Fr.refl _ _)
theorem Lock_calls (h : MAt w l M) (n t : Int) :
  Calls Tryz.prog 119 #[.pointer (some ⟨l.m,0,none⟩),.int .i64 n,.int .i64 t] w fun e w'=>e = .returned (.bool (M.lock n t).2)/\MAt w' l (M.lock n t).1/\MFr l w w':=by
 have hs:=h.nsmall;have hc:=h.hd.cell;have H:=(mkH (MAt w l M) <|h);clear h
 go_enter Tryz.func119,Tryz.ntmps119
 go_wp2_with fail;refine (hasNode_calls H.out _).mono ?_;rintro e w' ⟨rfl,rfl⟩;cases hn : M.hasNode n
 ·have hE : Hid (M.lock n t = (M,false)):=by show _ = _; simp [PMem.lock,hn]
  go_wp2;go_ret;rw [hE.out];exact ⟨rfl,H.out,.of0 (Fr.refl _ _)⟩
 ·obtain ⟨k,x,rfl,hlt,hx,hnode⟩:=hasNode_get hn;have HX:=(mkH (M.ns[k]? = some x) <|hx);have c6:=MemAt.node H.out HX.out (j:=6) (u:=.int .i64 x.holder) rfl;have hf:=ownsRow_frozen H.out.nodes;have hy : Hid (M.lock k t = (M.modN k fun x=>{ x with holder:=t },true)->MAt (w'.setCell ⟨l.nb,k * 10 + 6,none⟩ (.int .i64 t)) l (M.lock k t).1):=by
   intro e; rw [e];exact MAt.nodeSet hx _ (MemAt.setNode H.out hx 6 { x with holder:=t } (.int .i64 t) (by decide) rfl) _ rfl
  cases h1 : (x.holder != -1)
  ·have hE : Hid (M.lock k t = (M.modN k fun x=>{ x with holder:=t },true)):=by show _ = _; simp [PMem.lock,hn,hnode,h1]
   clear hn hnode hx;go_wp2;go_ret;refine ⟨ret_bool (by rw [hE.out]),hy.out hE.out,?_⟩;unfold MFr
   repeat (with_reducible first | refine Fr.setIn (.inl rfl) ?_ _ _ | refine Fr.drewN ?_ _ | refine Fr.drew ?_ | exact Fr.refl _ _)
  ·cases h2 : (x.holder != t)
   ·have hE : Hid (M.lock k t = (M.modN k fun x=>{ x with holder:=t },true)):=by show _ = _; simp [PMem.lock,hn,hnode,h1,h2]
    clear hn hnode hx;go_wp2;go_ret;refine ⟨ret_bool (by rw [hE.out]),hy.out hE.out,?_⟩;unfold MFr
    repeat (with_reducible first | refine Fr.setIn (.inl rfl) ?_ _ _ | refine Fr.drewN ?_ _ | refine Fr.drew ?_ | exact Fr.refl _ _)
   ·have hE : Hid (M.lock k t = (M,false)):=by show _ = _; simp [PMem.lock,hn,hnode,h1,h2]
    clear hn hnode hx;go_wp2;go_ret;rw [hE.out];exact ⟨rfl,H.out,.of0 (Fr.refl _ _)⟩
theorem Kill_calls (h : MAt w l M) (n : Int) :
  Calls Tryz.prog 129 #[.pointer (some ⟨l.m,0,none⟩),.int .i64 n] w fun e w'=>e = .returned (.tuple #[])/\MAt w' l (M.kill n)/\MFr l w w':=by
 have hs:=h.nsmall;have hc:=h.hd.cell;have H:=(mkH (MAt w l M) <|h);clear h
 go_enter Tryz.func129,Tryz.ntmps129
 go_wp2_with fail;refine (hasNode_calls H.out _).mono ?_;rintro e w' ⟨rfl,rfl⟩;cases hn : M.hasNode n
 ·have hE : Hid (M.kill n = M):=by show _ = _; simp [PMem.kill,PMem.modN,hn]
  go_wp2
  go_end0
  rw [hE.out];exact ⟨rfl,H.out,.of0 (Fr.refl _ _)⟩
 ·obtain ⟨k,x,rfl,hlt,hx,_⟩:=hasNode_get hn;have HX:=(mkH (M.ns[k]? = some x) <|hx);have c2:=MemAt.node H.out HX.out (j:=2) (u:=.bool x.dead) rfl;have hf:=ownsRow_frozen H.out.nodes;clear hn hx;go_wp2
  go_end0
  refine ⟨rfl,MAt.nodeSet HX.out _ (MemAt.setNode H.out HX.out 2 { x with dead:=true } (.bool true) (by decide) rfl) _ rfl,?_⟩;unfold MFr
  repeat (with_reducible first | refine Fr.setIn (.inl rfl) ?_ _ _ | refine Fr.drewN ?_ _ | refine Fr.drew ?_ | exact Fr.refl _ _)
theorem Retire_calls (h : MAt w l M) (n t : Int) :
  Calls Tryz.prog 130 #[.pointer (some ⟨l.m,0,none⟩),.int .i64 n,.int .i64 t] w fun e w'=>e = .returned (.tuple #[])/\MAt w' l (M.retire n t)/\MFr l w w':=by
 have hs:=h.nsmall;have hc:=h.hd.cell;obtain ⟨ap1,ap2,ap3⟩:=h.apart;have ap1':=ap1.symm;have H:=(mkH (MAt w l M) <|h);clear h
 go_enter Tryz.func130,Tryz.ntmps130
 go_wp2_with fail;refine (hasNode_calls H.out _).mono ?_;rintro e w' ⟨rfl,rfl⟩;cases hn : M.hasNode n
 ·have hE : Hid (M.retire n t = M):=by show _ = _; simp [PMem.retire,PMem.modN,hn]
  go_wp2
  go_end0
  rw [hE.out];exact ⟨rfl,H.out,.of0 (Fr.refl _ _)⟩
 ·obtain ⟨k,x,rfl,hlt,hx,_⟩:=hasNode_get hn;have HX:=(mkH (M.ns[k]? = some x) <|hx);have c3:=MemAt.node H.out HX.out (j:=3) (u:=.bool x.retired) rfl;have c4:=MemAt.node H.out HX.out (j:=4) (u:=.int .i64 x.retiredAt) rfl;have hf:=ownsRow_frozen H.out.nodes;clear hn hx;go_wp2
  go_end0
  have a1:=MemAt.setNode H.out HX.out 3 { x with retired:=true } (.bool true) (by decide) rfl;have a2:=a1.setNode (get_set_same HX.out) 4 { x with retired:=true,retiredAt:=t } (.int .i64 t) (by decide) rfl;rw [List.set_set] at a2;refine ⟨rfl,MAt.nodeSet HX.out _ a2 _ rfl,?_⟩;unfold MFr
  repeat (with_reducible first | refine Fr.setIn (.inl rfl) ?_ _ _ | refine Fr.drewN ?_ _ | refine Fr.drew ?_ | exact Fr.refl _ _)
end
end
section
open Go.RowKit
section
variable {w : World} {l : MLay} {M : PMem}
def nodeVal (x : PNode) : Value:=.agg #[.int .i64 x.key,.int .i64 x.value,.bool x.dead,.bool x.retired,.int .i64 x.retiredAt,.bool x.used,.int .i64 x.holder,.int .i64 x.links,.int .i64 (x.leads false),.int .i64 (x.leads true)]
theorem Node_size (h : MAt w l M) (n : Int) :
  Calls Tryz.prog 89 #[.pointer (some ⟨l.m,0,none⟩),.int .i64 n] w fun e w'=>e = .returned (nodeVal (M.node n))/\Fr (fun _=>False) w w'/\w'.heap.size = w.heap.size + 1:=by
 have hs:=h.nsmall;have hm:=h.hd.lt;have hnb:=ownsRow_lt0 h.nodes;have H:=(mkH (MAt w l M) <|h);have hF : Fr (fun _=>False) w (w.alloc (.cells PNode.zero.cells.toArray 131)):=(Fr.refl _ _).alloc _;have H1:=(mkH (MAt _ l M) <|MAt.same0 h hF);have hA:=At.new w PNode.zero.cells 131;have hz:=hA.frozen;have hac:=hA.cell;have hc:=H1.out.hd.cell;have HF:=(mkH (Fr _ _ _) <|hF);clear h hF hA;simp only [PNode.zero,PNode.cells,Int.natCast_zero] at hz hac hc H1 HF
 go_enter Tryz.func89,Tryz.ntmps89
 go_wp2_with fail;refine (hasNode_calls H1.out n).mono ?_;rintro e w' ⟨rfl,rfl⟩;cases hn : M.hasNode n
 ·have hE : Hid (M.node n = PNode.zero):=node_no hn;go_wp2;refine bodyPost_ret (v:=nodeVal PNode.zero) (by simp [results,Tryz.results89,go_sem,nodeVal,PNode.zero]) rfl ?_;rw [hE.out];refine ⟨rfl,?_,by simp⟩
  repeat (with_reducible first | refine Fr.alloc ?_ _ | exact Fr.refl _ _)
 ·obtain ⟨k,x,rfl,hlt,hx,hE⟩:=hasNode_get hn;have HE:=(mkH (M.node k = x) <|hE);have c0:=MemAt.node H1.out hx (j:=0) (u:=.int .i64 x.key) rfl;have c1:=MemAt.node H1.out hx (j:=1) (u:=.int .i64 x.value) rfl;have c2:=MemAt.node H1.out hx (j:=2) (u:=.bool x.dead) rfl;have c3:=MemAt.node H1.out hx (j:=3) (u:=.bool x.retired) rfl;have c4:=MemAt.node H1.out hx (j:=4) (u:=.int .i64 x.retiredAt) rfl;have c5:=MemAt.node H1.out hx (j:=5) (u:=.bool x.used) rfl;have c6:=MemAt.node H1.out hx (j:=6) (u:=.int .i64 x.holder) rfl;have c7:=MemAt.node H1.out hx (j:=7) (u:=.int .i64 x.links) rfl;have c8:=MemAt.node H1.out hx (j:=8) (u:=.int .i64 (x.leads false)) rfl;have c9:=MemAt.node H1.out hx (j:=9) (u:=.int .i64 (x.leads true)) rfl;rw [Nat.add_zero] at c0;clear hx hE hn;go_wp2;refine bodyPost_ret (v:=nodeVal x) (by simp [results,Tryz.results89,go_sem,nodeVal]) rfl ?_;rw [HE.out];refine ⟨rfl,?_,by simp⟩
  repeat (with_reducible first | refine Fr.alloc ?_ _ | exact Fr.refl _ _)
theorem Node_calls (h : MAt w l M) (n : Int) :
  Calls Tryz.prog 89 #[.pointer (some ⟨l.m,0,none⟩),.int .i64 n] w fun e w'=>e = .returned (nodeVal (M.node n))/\Fr (fun _=>False) w w' :=
 (Node_size h n).mono fun _ _ h=>⟨h.1,h.2.1⟩
theorem IsInner_size (x : PNode) (w : World) :
  Calls Tryz.prog 114 #[nodeVal x] w fun e w'=>e = .returned (.bool (x.links == 2))/\Fr (fun _=>False) w w'/\w'.heap.size = w.heap.size + 1:=by
 have hA:=At.new w x.cells 131;have hac:=hA.cell;clear hA;simp only [PNode.cells] at hac;have hE : Hid (((x.links : Int) == 2) = (x.links == 2)):=by
  show _ = _;cases h : (x.links == 2)
  ·rw [beq_eq_false_iff_ne] at h ⊢; omega
  ·rw [beq_iff_eq] at h ⊢; omega
 unfold nodeVal;cases hq : ((x.links : Int) == 2)
 all_goals
  go_enter Tryz.func114,Tryz.ntmps114
  go_wp2;go_ret;exact ⟨ret_bool (by rw [<- hE.out]; first | rfl | exact hq.symm | exact hq),(Fr.refl _ _).alloc _,by simp⟩
theorem IsInner_calls (x : PNode) (w : World) :
  Calls Tryz.prog 114 #[nodeVal x] w fun e w'=>e = .returned (.bool (x.links == 2))/\Fr (fun _=>False) w w' :=
 (IsInner_size x w).mono fun _ _ h=>⟨h.1,h.2.1⟩
theorem field_key (x : PNode) : ∀ w : World,(Instr.field 131 (nodeVal x) 0).run Tryz.prog w = .ok (.int .i64 x.key) w:=fun _=>by kernel_rfl
theorem field_value (x : PNode) : ∀ w : World,(Instr.field 131 (nodeVal x) 1).run Tryz.prog w = .ok (.int .i64 x.value) w:=fun _=>by kernel_rfl
theorem field_dead (x : PNode) : ∀ w : World,(Instr.field 131 (nodeVal x) 2).run Tryz.prog w = .ok (.bool x.dead) w:=fun _=>by kernel_rfl
theorem field_retiredAt (x : PNode) : ∀ w : World,(Instr.field 131 (nodeVal x) 4).run Tryz.prog w = .ok (.int .i64 x.retiredAt) w:=fun _=>by kernel_rfl
end
end
section
open Go.RowKit
section
variable {w : World} {l : MLay} {M : PMem}
theorem LinkFor_size (h : MAt w l M) (n key : Int) :
  Calls Tryz.prog 109 #[.pointer (some ⟨l.m,0,none⟩),.int .i64 n,.int .i64 key] w fun e w'=>e = .returned (lnk n (M.sideFor n key))/\Fr (fun _=>False) w w'/\w'.heap.size = w.heap.size + 4:=by
 have H:=(mkH (MAt w l M) <|h);have hF : Fr (fun _=>False) w (w.alloc (.cells #[.int .i64 0,.int .i64 0] 113)):=(Fr.refl _ _).alloc _;have H1:=(mkH (MAt _ l M) <|MAt.same0 h hF);have hA:=At.new w [.int .i64 0,.int .i64 0] 113;have HA:=(mkH (At _ _ _ _) <|hA);have HF:=(mkH (Fr _ _ _) <|hF);clear h hF hA
 go_enter Tryz.func109,Tryz.ntmps109
 go_wp2_with fail;refine (Node_size H1.out n).mono ?_;rintro e w1 ⟨rfl,hF1,hz1⟩;have HZ1:=(mkH (w1.heap.size = _) <|hz1);clear hz1;have hA1:=hF1.at HA.out (fun h=>h);have hsz:=hA1.lt;have HF1:=(mkH (Fr _ w w1) <|HF.out.trans hF1);have HA1:=(mkH (At _ _ _ _) <|hA1);generalize hx : M.node n = x;have hside : Hid (M.sideFor n key = ((x.links == 2) && decide (x.key<=key))):=by show _ = _; unfold PMem.sideFor; rw [hx]
 unfold nodeVal;clear hF1 HA HF H1 H hA1 hx;go_wp2_with fail;refine (IsInner_size x _).mono ?_;rintro e w2 ⟨rfl,hF2,hz2'⟩;have hsize : Hid (w2.heap.size = w.heap.size + 4):=by
  show _ = _;have hz1:=HZ1.out;simp only [World.size_alloc] at hz1 hz2';omega
 clear HZ1 hz2';have hA2:=hF2.at (HA1.out.alloc _) (fun h=>h);have hB2:=hF2.at (At.new w1 x.cells 131) (fun h=>h);have hz2:=hA2.frozen;have hc2:=hA2.cell;have hb2:=hB2.cell;simp only [PNode.cells] at hb2;have HF2:=(mkH (Fr _ w w2) <|(HF1.out.alloc _).trans hF2);have HA2:=(mkH (At _ _ _ _) <|hA2);have hsz2 : w.heap.size<=w.heap.size:=Nat.le_refl _;clear hF2 hA2 hB2 HF1 HA1;cases hl : (x.links == 2)
 ·have hs : Hid (M.sideFor n key = false):=by show _ = _; rw [hside.out,hl]; rfl
  go_wp2;have f0:=(HA2.out.set 0 (.int .i64 n)).cell;have f1:=((HA2.out.set 0 (.int .i64 n)).set 1 (.int .i64 0)).cell;refine bodyPost_ret (v:=lnk n false) (by simp [results,Tryz.results109,go_sem,lnk,b2i,f0,f1]) rfl ?_;rw [hs.out];refine ⟨rfl,?_,by simpa using hsize.out⟩;exact Fr.setNew (Nat.le_refl _) (Fr.setNew (Nat.le_refl _) HF2.out _ _) _ _
 ·by_cases hk : x.key<=key
  ·have hs : Hid (M.sideFor n key = true):=by show _ = _; rw [hside.out,hl,decide_eq_true hk]; rfl
   go_wp2;have f0:=(HA2.out.set 0 (.int .i64 n)).cell;have f1:=((HA2.out.set 0 (.int .i64 n)).set 1 (.int .i64 1)).cell;refine bodyPost_ret (v:=lnk n true) (by simp [results,Tryz.results109,go_sem,lnk,b2i,f0,f1]) rfl ?_;rw [hs.out];refine ⟨rfl,?_,by simpa using hsize.out⟩;exact Fr.setNew (Nat.le_refl _) (Fr.setNew (Nat.le_refl _) HF2.out _ _) _ _
  ·have hs : Hid (M.sideFor n key = false):=by show _ = _; rw [hside.out,hl,decide_eq_false hk]; rfl
   go_wp2;have f0:=(HA2.out.set 0 (.int .i64 n)).cell;have f1:=((HA2.out.set 0 (.int .i64 n)).set 1 (.int .i64 0)).cell;refine bodyPost_ret (v:=lnk n false) (by simp [results,Tryz.results109,go_sem,lnk,b2i,f0,f1]) rfl ?_;rw [hs.out];refine ⟨rfl,?_,by simpa using hsize.out⟩;exact Fr.setNew (Nat.le_refl _) (Fr.setNew (Nat.le_refl _) HF2.out _ _) _ _
theorem LinkFor_calls (h : MAt w l M) (n key : Int) :
  Calls Tryz.prog 109 #[.pointer (some ⟨l.m,0,none⟩),.int .i64 n,.int .i64 key] w fun e w'=>e = .returned (lnk n (M.sideFor n key))/\Fr (fun _=>False) w w' :=
 (LinkFor_size h n key).mono fun _ _ h=>⟨h.1,h.2.1⟩
theorem LeadsTo_calls (h : MAt w l M) (n : Int) (s : Bool) :
  Calls Tryz.prog 132 #[.pointer (some ⟨l.m,0,none⟩),lnk n s] w fun e w'=>e = .returned (.int .i64 (M.leadsTo n s))/\Fr (fun _=>False) w w':=by
 have hs:=h.nsmall;have HB:=(mkH (Boxed _ _ _ _ _ _ _) <|Boxed.new h n s);have hc:=HB.out.mem.hd.cell;have hb:=HB.out.box.cell;clear h;unfold lnk
 go_enter Tryz.func132,Tryz.ntmps132
 go_wp2_with fail;refine (hasLink_calls HB.out.mem n s).mono ?_;rintro e w1 ⟨rfl,hF⟩;have HB1:=(mkH (Boxed _ _ _ _ _ _ _) <|HB.out.step hF);clear hF HB hc hb;have hc:=HB1.out.mem.hd.cell;have hb:=HB1.out.box.cell;cases hl : M.hasLink n s
 ·have hE : Hid (M.leadsTo n s = -1):=by show _ = _; simp [PMem.leadsTo,hl]
  go_wp2;go_ret;exact ⟨ret_int hE.out.symm,HB1.out.fr⟩
 ·have hn : M.hasNode n = true:=by unfold PMem.hasLink at hl; simp at hl; exact hl.1
  obtain ⟨k,x,rfl,hlt,hx,hnode⟩:=hasNode_get hn;have hE : Hid (M.leadsTo k s = x.leads s):=by show _ = _; simp [PMem.leadsTo,hl,hnode]
  have c8:=MemAt.node HB1.out.mem hx (j:=8) (u:=.int .i64 (x.leads false)) rfl;have c9:=MemAt.node HB1.out.mem hx (j:=9) (u:=.int .i64 (x.leads true)) rfl;clear hn hx hnode;cases s
  all_goals
   simp only [b2i_true,b2i_false] at hb ⊢;go_wp2_with fail
   go_quiet (fail)
   go_wp2;go_ret;exact ⟨ret_int hE.out.symm,(HB1.out.drewN _).fr⟩
theorem Lead_calls (h : MAt w l M) (n : Int) (s : Bool) :
  Calls Tryz.prog 102 #[.pointer (some ⟨l.m,0,none⟩),lnk n s] w fun e w'=>e = .returned (.tuple #[])/\MAt w' l (M.lead n s)/\MFr l w w':=by
 have hs:=h.nsmall;have hes:=h.esmall;have HB:=(mkH (Boxed _ _ _ _ _ _ _) <|Boxed.new h n s);have hc:=HB.out.mem.hd.cell;have hb:=HB.out.box.cell;clear h;unfold lnk
 go_enter Tryz.func102,Tryz.ntmps102
 go_wp2_with fail;refine (pending_calls HB.out.mem n s).mono ?_;rintro e w1 ⟨rfl,hF⟩;have HB1:=(mkH (Boxed _ _ _ _ _ _ _) <|HB.out.step hF);clear hF HB hc hb;have hc:=HB1.out.mem.hd.cell;have hb:=HB1.out.box.cell;go_wp2_with fail;refine (hasEntry_calls HB1.out.mem _).mono ?_;rintro e w' ⟨rfl,rfl⟩;cases he : M.hasEntry (M.pending n s)
 ·have hE : Hid (M.lead n s = M):=by show _ = _; simp [PMem.lead,he]
  go_wp2;refine bodyPost_ret (results_none rfl _ _ _) rfl ?_;exact ⟨rfl,by rw [hE.out]; exact HB1.out.mem,.of0 HB1.out.fr⟩
 ·go_wp2_with fail;refine (hasLink_calls HB1.out.mem n s).mono ?_;rintro e w2 ⟨rfl,hF⟩;have HB2:=(mkH (Boxed _ _ _ _ _ _ _) <|HB1.out.step hF);clear hF HB1 hc hb;have hc:=HB2.out.mem.hd.cell;have hb:=HB2.out.box.cell;cases hl : M.hasLink n s
  ·have hE : Hid (M.lead n s = M):=by show _ = _; simp [PMem.lead,he,hl]
   go_wp2;refine bodyPost_ret (results_none rfl _ _ _) rfl ?_;exact ⟨rfl,by rw [hE.out]; exact HB2.out.mem,.of0 HB2.out.fr⟩
  ·have hn : M.hasNode n = true:=by unfold PMem.hasLink at hl; simp at hl; exact hl.1
   have hE : Hid (M.lead n s = M.modN n fun x=>{ x with leads:=upd x.leads s (M.ent (M.pending n s)).dst }):=by show _ = _; simp [PMem.lead,he,hl]
   obtain ⟨k,x,rfl,hlt,hx,hnode⟩:=hasNode_get hn;obtain ⟨h0,h1⟩:=isIn_iff.1 he;obtain ⟨q,hq⟩:=Int.eq_ofNat_of_zero_le h0;rw [hq] at hE ⊢;have hqlt : q < M.es.length:=by omega
   have hy : M.es[q]? = some M.es[q]:=List.getElem?_eq_getElem hqlt;generalize M.es[q] = y at hy;have hd : M.ent (q : Int) = y:=by simp [PMem.ent,hy]
   rw [hd] at hE;have HX:=(mkH (M.ns[k]? = some x) <|hx);have c8:=MemAt.node HB2.out.mem hx (j:=8) (u:=.int .i64 (x.leads false)) rfl;have c9:=MemAt.node HB2.out.mem hx (j:=9) (u:=.int .i64 (x.leads true)) rfl;have d4:=MemAt.ent HB2.out.mem hy (j:=4) (u:=.int .i64 y.dst) rfl;have hf:=ownsRow_frozen HB2.out.mem.nodes;clear hn hx hnode hy hd he h0 h1 hq hl;cases s
   ·simp only [b2i_true,b2i_false] at hb ⊢;go_wp2_with fail;go_region;go_wp2
    go_end0
    refine ⟨rfl,by rw [hE.out]; exact MemAt.drew (MAt.nodeSet HX.out _ (MemAt.setNode HB2.out.mem HX.out 8 { x with leads:=upd x.leads false y.dst } (.int .i64 y.dst) (by decide) rfl) _ rfl),(MFr.of0 HB2.out.fr).trans ?_⟩;unfold MFr
    repeat (with_reducible first | refine Fr.setIn (.inl rfl) ?_ _ _ | refine Fr.drewN ?_ _ | refine Fr.drew ?_ | exact Fr.refl _ _)
   ·simp only [b2i_true,b2i_false] at hb ⊢;go_wp2_with fail;go_region;go_wp2
    go_end0
    refine ⟨rfl,by rw [hE.out]; exact MemAt.drew (MAt.nodeSet HX.out _ (MemAt.setNode HB2.out.mem HX.out 9 { x with leads:=upd x.leads true y.dst } (.int .i64 y.dst) (by decide) rfl) _ rfl),(MFr.of0 HB2.out.fr).trans ?_⟩;unfold MFr
    repeat (with_reducible first | refine Fr.setIn (.inl rfl) ?_ _ _ | refine Fr.drewN ?_ _ | refine Fr.drew ?_ | exact Fr.refl _ _)
theorem Unpend_calls (h : MAt w l M) (n : Int) (s : Bool) :
  Calls Tryz.prog 140 #[.pointer (some ⟨l.m,0,none⟩),lnk n s] w fun e w'=>e = .returned (.tuple #[])/\MAt w' l (M.unpend n s)/\MFr l w w':=by
 have hs:=h.esmall;have HB:=(mkH (Boxed _ _ _ _ _ _ _) <|Boxed.new h n s);have hc:=HB.out.mem.hd.cell;have hb:=HB.out.box.cell;clear h;unfold lnk
 go_enter Tryz.func140,Tryz.ntmps140
 go_wp2_with fail;refine (pending_calls HB.out.mem n s).mono ?_;rintro e w1 ⟨rfl,hF⟩;have HB1:=(mkH (Boxed _ _ _ _ _ _ _) <|HB.out.step hF);clear hF HB hc hb;have hc:=HB1.out.mem.hd.cell;have hb:=HB1.out.box.cell;go_wp2_with fail;refine (hasEntry_calls HB1.out.mem _).mono ?_;rintro e w' ⟨rfl,rfl⟩;cases he : M.hasEntry (M.pending n s)
 ·have hE : Hid (M.unpend n s = M):=by show _ = _; simp [PMem.unpend,he]
  go_wp2;refine bodyPost_ret (results_none rfl _ _ _) rfl ?_;exact ⟨rfl,by rw [hE.out]; exact HB1.out.mem,.of0 HB1.out.fr⟩
 ·have hE : Hid (M.unpend n s = M.setE (M.pending n s) PEntry.zero):=by show _ = _; simp [PMem.unpend,he]
  obtain ⟨h0,h1⟩:=isIn_iff.1 he;obtain ⟨k,hk⟩:=Int.eq_ofNat_of_zero_le h0;rw [hk] at hE ⊢;have hlt : k < M.es.length:=by omega
  have hx : Hid (M.es[k]? = some M.es[k]):=List.getElem?_eq_getElem hlt;generalize M.es[k] = x at hx;have c0:=MemAt.ent HB1.out.mem hx.out (j:=0) (u:=.bool x.used) rfl;have c1:=MemAt.ent HB1.out.mem hx.out (j:=1) (u:=.bool x.pending) rfl;have c2:=MemAt.ent HB1.out.mem hx.out (j:=2) (u:=.int .i64 x.src) rfl;have c3:=MemAt.ent HB1.out.mem hx.out (j:=3) (u:=.int .i64 (b2i x.side)) rfl;have c4:=MemAt.ent HB1.out.mem hx.out (j:=4) (u:=.int .i64 x.dst) rfl;have c5:=MemAt.ent HB1.out.mem hx.out (j:=5) (u:=.int .i64 x.stamp) rfl;rw [Nat.add_zero] at c0;have hf:=ownsRow_frozen HB1.out.mem.ents;clear he h0 h1 hk;go_wp2
  go_end0
  rw [hE.out];refine ⟨rfl,MemAt.putEnt HB1.out.mem hx.out PEntry.zero,(MFr.of0 HB1.out.fr).trans ?_⟩;unfold MFr
  repeat (with_reducible first | refine Fr.setIn (.inr rfl) ?_ _ _ | refine Fr.drewN ?_ _ | refine Fr.drew ?_ | exact Fr.refl _ _)
theorem HasPending_calls (h : MAt w l M) (n : Int) (s : Bool) :
  Calls Tryz.prog 92 #[.pointer (some ⟨l.m,0,none⟩),lnk n s] w fun e w'=>e = .returned (.bool (M.hasPending n s))/\Fr (fun _=>False) w w':=by
 have HB:=(mkH (Boxed _ _ _ _ _ _ _) <|Boxed.new h n s);have hc:=HB.out.mem.hd.cell;have hb:=HB.out.box.cell;clear h;unfold lnk
 go_enter Tryz.func92,Tryz.ntmps92
 go_wp2_with fail;refine (pending_calls HB.out.mem n s).mono ?_;rintro e w1 ⟨rfl,hF⟩;have HB1:=(mkH (Boxed _ _ _ _ _ _ _) <|HB.out.step hF);clear hF HB hc hb;go_wp2;go_ret;exact ⟨ret_bool rfl,HB1.out.fr⟩
theorem Other_calls (n : Int) (s : Bool) (w : World) :
  Calls Tryz.prog 139 #[lnk n s] w fun e w'=>e = .returned (lnk n (!s))/\Fr (fun _=>False) w w':=by
 have hA:=(At.new w [.int .i64 n,.int .i64 (b2i s)] 113).cell;unfold lnk;cases s
 all_goals
  simp only [b2i_true,b2i_false] at hA ⊢
  go_enter Tryz.func139,Tryz.ntmps139
  go_wp2;refine bodyPost_ret (v:=.agg #[.int .i64 n,_]) (by simp [results,Tryz.results139,go_sem,b2i]; rfl) rfl ?_;refine ⟨by simp [b2i],?_⟩
  repeat (with_reducible first | refine Fr.alloc ?_ _ | exact Fr.refl _ _)
end
end
section
open Go.RowKit
section
variable {w : World} {l : MLay} {M : PMem}
def entVal (x : PEntry) : Value:=.agg #[.bool x.used,.bool x.pending,.int .i64 x.src,.int .i64 (b2i x.side),.int .i64 x.dst,.int .i64 x.stamp]
theorem isStamped_calls (x : PEntry) (n : Int) (s : Bool) (w : World) :
  Calls Tryz.prog 107 #[entVal x,lnk n s] w fun e w'=>e = .returned (.bool (isSt n s x))/\Fr (fun _=>False) w w':=by
 obtain ⟨us,pe,sr,si,ds,st⟩:=x;have hbb:=b2i_beq si s;have HB:=(show Hid _ from hbb);clear hbb;unfold entVal lnk isSt;simp only
 go_enter Tryz.func107,Tryz.ntmps107
 cases us
 ·go_wp2;go_ret;exact ⟨ret_bool (by simp),((Fr.refl _ _).alloc _).alloc _⟩
 ·cases pe
  ·cases hq : (sr == n)
   ·cases hr : (b2i si == b2i s)
    ·go_wp2;go_ret;exact ⟨ret_bool (by simp),((Fr.refl _ _).alloc _).alloc _⟩
    ·go_wp2;go_ret;exact ⟨ret_bool (by simp),((Fr.refl _ _).alloc _).alloc _⟩
   ·cases hr : (b2i si == b2i s)
    ·go_wp2;go_ret;exact ⟨ret_bool (by rw [HB.out] at hr; simp [hr]),((Fr.refl _ _).alloc _).alloc _⟩
    ·go_wp2;go_ret;exact ⟨ret_bool (by rw [HB.out] at hr; simp [hr]),((Fr.refl _ _).alloc _).alloc _⟩
  ·go_wp2;go_ret;exact ⟨ret_bool (by simp),((Fr.refl _ _).alloc _).alloc _⟩
theorem led_take {es : List PEntry} {k : Nat} {x : PEntry} (h : es[k]? = some x) (n : Int) (s : Bool) (t : Int) (p : Int × Int) : (es.take (k + 1)).foldl (ledStep n s t) p = ledStep n s t ((es.take k).foldl (ledStep n s t) p) x:=by
 rw [List.take_add_one,h,List.foldl_append]; rfl
theorem LedTo_calls (h : MAt w l M) (n : Int) (s : Bool) (t : Int) :
  Calls Tryz.prog 93 #[.pointer (some ⟨l.m,0,none⟩),lnk n s,.int .i64 t] w fun e w'=>e = .returned (.int .i64 (M.ledTo n s t))/\Fr (fun _=>False) w w':=by
 have hs:=h.esmall;have HB:=(mkH (Boxed _ _ _ _ _ _ _) <|Boxed.new h n s);have hc:=HB.out.mem.hd.cell;clear h;unfold PMem.ledTo lnk
 go_enter Tryz.func93,Tryz.ntmps93
 go_wp2;clear hc
 go_loopw [7,8,16] (fun to g i wr=>∃ k : Nat,k<=M.es.length/\i = .int .i64 k/\∃ m d : Int,g = .int .i64 m/\to = .int .i64 d/\Hid ((M.es.take k).foldl (ledStep n s t) (-1,1) = (m,d))/\Hid (Boxed w wr l M w.heap.size n s)) (fun _ _ i _=>M.es.length - (intOf i).toNat)
 case atStart=>exact ⟨0,Nat.zero_le _,rfl,-1,1,rfl,rfl,rfl,HB⟩
 case round =>
  clear HB;obtain ⟨k,hk,rfl,m,d,rfl,rfl,HE,HB⟩:=hrel;have hc:=HB.out.mem.hd.cell;have hb:=HB.out.box.cell;by_cases hlt : k < M.es.length
  ·have hx : Hid (M.es[k]? = some M.es[k]):=List.getElem?_eq_getElem hlt;generalize M.es[k] = x at hx;have c0:=MemAt.ent HB.out.mem hx.out (j:=0) (u:=.bool x.used) rfl;have c1:=MemAt.ent HB.out.mem hx.out (j:=1) (u:=.bool x.pending) rfl;have c2:=MemAt.ent HB.out.mem hx.out (j:=2) (u:=.int .i64 x.src) rfl;have c3:=MemAt.ent HB.out.mem hx.out (j:=3) (u:=.int .i64 (b2i x.side)) rfl;have c4:=MemAt.ent HB.out.mem hx.out (j:=4) (u:=.int .i64 x.dst) rfl;have c5:=MemAt.ent HB.out.mem hx.out (j:=5) (u:=.int .i64 x.stamp) rfl;rw [Nat.add_zero] at c0;have HN:=(show Hid _ from led_take hx.out n s t (-1,1));have hlb:=HB.out.box.lt;have hlm:=HB.out.mem.hd.lt;go_wp2_with fail;refine (isStamped_calls x n s _).mono ?_;rintro e w1 ⟨rfl,hF⟩;have HB1:=(mkH (Boxed w w1 l M w.heap.size n s) <|HB.out.step (((Fr.refl _ _).alloc _).trans hF));have HX:=(mkH (At w1 wr.heap.size [.bool x.used,.bool x.pending,.int .i64 x.src,.int .i64 (b2i x.side),.int .i64 x.dst,.int .i64 x.stamp] 133) <|hF.at (At.new wr [.bool x.used,.bool x.pending,.int .i64 x.src,.int .i64 (b2i x.side),.int .i64 x.dst,.int .i64 x.stamp] _) (fun h=>h));have hxc:=HX.out.cell;clear hF HB hc hb c0 c1 c2 c3 c4 c5 hlb hlm;cases hst : isSt n s x
   ·go_wp2
    go_roundw
    case rel=>exact ⟨k + 1,by omega,by go_num,m,d,rfl,rfl,by show List.foldl _ _ _ = _; rw [HN.out,HE.out]; unfold ledStep; rw [hst]; rfl,HB1⟩
    case measure=>simp [intOf]; omega
   ·by_cases h1 : x.stamp<=t
    ·by_cases h2 : m < x.stamp
     ·go_wp2
      go_roundw
      case rel=>exact ⟨k + 1,by omega,by go_num,x.stamp,x.dst,rfl,rfl,by show List.foldl _ _ _ = _; rw [HN.out,HE.out]; unfold ledStep; rw [hst]; simp [h1,h2],HB1⟩
      case measure=>simp [intOf]; omega
     ·go_wp2
      go_roundw
      case rel=>exact ⟨k + 1,by omega,by go_num,m,d,rfl,rfl,by show List.foldl _ _ _ = _; rw [HN.out,HE.out]; unfold ledStep; rw [hst,if_neg (by intro hh; simp at hh; omega)],HB1⟩
      case measure=>simp [intOf]; omega
    ·go_wp2
     go_roundw
     case rel=>exact ⟨k + 1,by omega,by go_num,m,d,rfl,rfl,by show List.foldl _ _ _ = _; rw [HN.out,HE.out]; unfold ledStep; rw [hst,if_neg (by intro hh; simp at hh; omega)],HB1⟩
     case measure=>simp [intOf]; omega
  ·have hke : k = M.es.length:=by omega
   have HF : Hid ((M.es.foldl (ledStep n s t) (-1,1)).2 = d):=by
    have:=HE.out
    rw [hke,List.take_length] at this;show (M.es.foldl (ledStep n s t) (-1,1)).2 = d;rw [this]
   clear HE hke;go_wp2;go_ret;exact ⟨ret_int HF.out.symm,HB.out.fr⟩
end
end
section
open Go.RowKit
inductive Tag where
 | store | spl | thl | log | round | noted | gone | lists
 | spot (i : Nat)
 | st (i : Nat) (s : Bool)
 | thread (i : Nat)
 | tr (i : Nat) (k : Nat)
 | oth (n : Nat)
 deriving DecidableEq
structure Zone where
 z : Nat
 tag : Tag
abbrev Own:=Nat->Zone
def Own.put (own : Own) (k z : Nat) (tag : Tag) : Own:=fun j=>if j = k then ⟨z,tag⟩ else own j
theorem Own.put_same (own : Own) (k z : Nat) (tag : Tag) : own.put k z tag k = ⟨z,tag⟩:=by simp [Own.put]
theorem Own.put_ne (own : Own) {k j : Nat} (z : Nat) (tag : Tag) (h : j≠k) : own.put k z tag j = own j:=by simp [Own.put,h]
def Ext (own own' : Own) (w : World) : Prop:=∀ k,k < w.heap.size->own' k = own k
theorem Ext.refl (own : Own) (w : World) : Ext own own w:=fun _ _=>rfl
theorem Ext.trans {own own1 own2 : Own} {w w1 : World} (h : Ext own own1 w) (k : Ext own1 own2 w1) (hs : w.heap.size<=w1.heap.size) : Ext own own2 w :=
 fun j hj=>(k j (Nat.lt_of_lt_of_le hj hs)).trans (h j hj)
theorem Ext.put {own : Own} {w : World} {k : Nat} (hk : w.heap.size<=k) (z : Nat) (tag : Tag) : Ext own (own.put k z tag) w:=fun j hj=>Own.put_ne own z tag (by omega)
theorem Ext.put' {own own' : Own} {w : World} {k : Nat} (h : Ext own own' w) {z : Nat} {tag : Tag} (hk : own k = ⟨z,tag⟩\/w.heap.size<=k) : Ext own (own'.put k z tag) w:=by
 intro j hj;by_cases e : j = k
 ·subst e;rcases hk with hk | hk
  ·rw [Own.put_same,hk]
  ·omega
 ·rw [Own.put_ne _ _ _ e]; exact h j hj
def FrT (own : Own) (z : Nat) (A : Tag->Prop) (w w' : World) : Prop:=Fr (fun k=>(own k).z = z/\A (own k).tag) w w'
def FrZ (own : Own) (z : Nat) (w w' : World) : Prop:=Fr (fun k=>(own k).z = z) w w'
theorem FrT.zone {own : Own} {z : Nat} {A : Tag->Prop} {w w' : World} (h : FrT own z A w w') : FrZ own z w w':=Fr.mono h (fun _ _ hk=>hk.1)
theorem FrT.of {own : Own} {z : Nat} {A : Tag->Prop} {w w' : World} {S : Nat->Prop} (h : Fr S w w') (hS : ∀ k,S k->(own k).z = z/\A (own k).tag) : FrT own z A w w':=Fr.mono h (fun k _ hk=>hS k hk)
theorem FrT.one {own : Own} {z b : Nat} {A : Tag->Prop} {w w' : World} {tag : Tag} (h : Fr (fun k=>k = b) w w') (hb : own b = ⟨z,tag⟩) (hA : A tag) : FrT own z A w w' :=
 FrT.of h (by rintro k rfl; rw [hb]; exact ⟨rfl,hA⟩)
theorem FrZ.trans {own own1 : Own} {z : Nat} {w w1 w2 : World} (h : FrZ own z w w1) (he : Ext own own1 w) (k : FrZ own1 z w1 w2) : FrZ own z w w2 :=
 Fr.transNew h k (fun i hi=>by
  by_cases hlt : i < w.heap.size
  ·left; rw [<- he i hlt]; exact hi
  ·right; omega)
structure Row (own : Own) (z : Nat) (w : World) (tag : Tag) (e : TypeId) (size : Nat) (v : Value) (n : Nat) (xs : List Value) : Prop where
 row : w.ownsRow 0 e size v n xs
 tg : ∀ k,v.ownBlock = some k->own k = ⟨z,tag⟩
theorem ownsRow_lt {w : World} {e : TypeId} {size : Nat} {v : Value} {n : Nat} {xs : List Value} (h : w.ownsRow 0 e size v n xs) {k : Nat} (hk : v.ownBlock = some k) : k < w.heap.size:=by
 rcases h.2 with ⟨rfl,_⟩ | ⟨g,cap,cur,rfl,_,hg,_⟩
 ·simp [Value.ownBlock] at hk
 ·simp [Value.ownBlock] at hk; subst hk; exact (Array.getElem?_eq_some_iff.1 hg).1
theorem Row.fr {own own' : Own} {z : Nat} {w w' : World} {tag : Tag} {e : TypeId} {size : Nat} {v : Value} {n : Nat} {xs : List Value} {S : Nat->Prop}
  (h : Row own z w tag e size v n xs) (hf : Fr S w w') (he : Ext own own' w) (hS : ∀ k,own k = ⟨z,tag⟩->¬ S k) : Row own' z w' tag e size v n xs :=
 ⟨hf.owns h.row (fun k hk=>hS k (h.tg k hk)),fun k hk=>by rw [he k (ownsRow_lt h.row hk)]; exact h.tg k hk⟩
theorem Row.nil (own : Own) (z : Nat) (w : World) (tag : Tag) (e : TypeId) (size : Nat) : Row own z w tag e size (.slice none 0 0) 0 [] :=
 ⟨⟨by simp,.inl ⟨rfl,rfl⟩⟩,by intro k hk; simp [Value.ownBlock] at hk⟩
def intCells (l : List Int) : List Value:=l.map (.int .i64)
def natCells (l : List Nat) : List Value:=l.map fun (k : Nat)=>.int .i64 k
def pairCells (p : Int × Int) : List Value:=[.int .i64 p.1,.int .i64 p.2]
def linkCells (p : Int × Bool) : List Value:=[.int .i64 p.1,.int .i64 (b2i p.2)]
structure ListsAt (own : Own) (z : Nat) (w : World) (v : Value) (ll : List (List (Int × Int))) : Prop where
 nil : ll = []->v = .slice none 0 0
 top : ∃ ins : List Value,ins.length = ll.length/\Row own z w .lists 47 1 v ll.length ins /\
  ∀ (i : Nat) (u : Value) (l : List (Int × Int)),ins[i]? = some u->ll[i]? = some l->Row own z w .lists 95 2 u l.length (l.flatMap pairCells)
section
variable {own own' : Own} {z : Nat} {w w' : World} {S : Nat->Prop}
theorem at_fr {b : Nat} {c : List Value} {e : TypeId} {tag : Tag} (h : At w b c e) (ho : own b = ⟨z,tag⟩) (hf : Fr S w w') (he : Ext own own' w) (hS : ∀ k,own k = ⟨z,tag⟩->¬ S k) : At w' b c e/\own' b = ⟨z,tag⟩ :=
 ⟨hf.at h (hS b ho),by rw [he b h.lt]; exact ho⟩
theorem ListsAt.fr {v : Value} {ll : List (List (Int × Int))} (h : ListsAt own z w v ll) (hf : Fr S w w') (he : Ext own own' w) (hS : ∀ k,own k = ⟨z,.lists⟩->¬ S k) : ListsAt own' z w' v ll:=by
 obtain ⟨ins,h1,h2,h3⟩:=h.top;exact ⟨h.nil,ins,h1,h2.fr hf he hS,fun i u l hu hl=>(h3 i u l hu hl).fr hf he hS⟩
theorem ListsAt.none (own : Own) (z : Nat) (w : World) : ListsAt own z w (.slice none 0 0) [] :=
 ⟨fun _=>rfl,[],rfl,Row.nil _ _ _ _ _ _,by intro i u l hu; simp at hu⟩
theorem not_tag {A : Tag->Prop} {tag : Tag} (h : ¬ A tag) : ∀ k,own k = ⟨z,tag⟩->¬ ((own k).z = z/\A (own k).tag):=by
 intro k hk hs; rw [hk] at hs; exact h hs.2
end
end
section
open Go.RowKit
def pmap {α : Type} (f : α->α) (l : List α) (k : Nat) : List α:=(l.take k).map f ++ l.drop k
theorem pmap_zero {α : Type} (f : α->α) (l : List α) : pmap f l 0 = l:=by simp [pmap]
theorem pmap_all {α : Type} (f : α->α) (l : List α) : pmap f l l.length = l.map f:=by simp [pmap]
theorem pmap_len {α : Type} (f : α->α) (l : List α) (k : Nat) (h : k<=l.length) : (pmap f l k).length = l.length:=by simp [pmap]; omega
theorem pmap_get {α : Type} (f : α->α) (l : List α) (k : Nat) (h : k < l.length) : (pmap f l k)[k]? = l[k]?:=by
 unfold pmap;rw [List.getElem?_append_right (by simp; omega),List.getElem?_drop]
 simp; congr 1; omega
theorem pmap_succ {α : Type} (f : α->α) (l : List α) (k : Nat) (x : α) (h : l[k]? = some x) : pmap f l (k + 1) = (pmap f l k).set k (f x):=by
 obtain ⟨hk,hx⟩:=List.getElem?_eq_some_iff.1 h;unfold pmap;rw [List.take_succ_eq_append_getElem hk,List.map_append,List.drop_eq_getElem_cons hk,hx];rw [List.set_append_right _ _ (by simp; omega)];simp [Nat.min_eq_left (Nat.le_of_lt hk)]
theorem pmap_skip {α : Type} (f : α->α) (l : List α) (k : Nat) (x : α) (h : l[k]? = some x) (hf : f x = x) : pmap f l (k + 1) = pmap f l k:=by
 obtain ⟨hk,hx⟩:=List.getElem?_eq_some_iff.1 h;unfold pmap;rw [List.take_succ_eq_append_getElem hk,List.map_append,List.drop_eq_getElem_cons hk,hx];simp [hf]
section
variable {w : World} {l : MLay} {M : PMem}
theorem Unlock_calls (h : MAt w l M) (t : Int) :
  Calls Tryz.prog 135 #[.pointer (some ⟨l.m,0,none⟩),.int .i64 t] w fun e w'=>e = .returned (.tuple #[])/\MAt w' l (M.unlock t)/\MFr l w w':=by
 have hs:=h.nsmall;have hc:=h.hd.cell;have H:=(mkH (MAt w l { M with ns:=pmap (unlocked t) M.ns 0 }) <|by rw [pmap_zero]; exact h);have hE : Hid (M.unlock t = { M with ns:=pmap (unlocked t) M.ns M.ns.length }):=by show _ = _; rw [pmap_all]; rfl
 clear h
 go_enter Tryz.func135,Tryz.ntmps135
 go_wp2;clear hc
 go_loopw [4,10] (fun _ i wr=>∃ k : Nat,k<=M.ns.length/\i = .int .i64 k/\Hid (MAt wr l { M with ns:=pmap (unlocked t) M.ns k })/\Hid (MFr l w wr)) (fun _ i _=>M.ns.length - (intOf i).toNat)
 case atStart=>exact ⟨0,Nat.zero_le _,rfl,H,.of0 (Fr.refl _ _)⟩
 case round =>
  clear H;obtain ⟨k,hk,rfl,H,HF⟩:=hrel;have hc:=H.out.hd.cell;rw [show (({ M with ns:=pmap (unlocked t) M.ns k } : PMem).ns).length = M.ns.length from pmap_len _ _ _ hk] at hc;by_cases hlt : k < M.ns.length
  ·have hx : Hid (M.ns[k]? = some M.ns[k]):=List.getElem?_eq_getElem hlt;generalize M.ns[k] = x at hx;have hx' : Hid ((pmap (unlocked t) M.ns k)[k]? = some x):=by show _ = _; rw [pmap_get _ _ _ hlt]; exact hx.out
   have c5:=MemAt.node H.out hx'.out (j:=5) (u:=.bool x.used) rfl;have c6:=MemAt.node H.out hx'.out (j:=6) (u:=.int .i64 x.holder) rfl;have hf:=ownsRow_frozen H.out.nodes;have hskip : Hid (unlocked t x = x->MAt wr l { M with ns:=pmap (unlocked t) M.ns (k + 1) }):=by
    intro e; rw [pmap_skip _ _ _ x hx.out e]; exact H.out
   cases hu : x.used
   ·rw [hu] at c5;go_wp2
    go_roundw
    case rel=>exact ⟨k + 1,by omega,by go_num,hskip.out (by simp [unlocked,hu]),HF⟩
    case measure=>simp [intOf]; omega
   ·rw [hu] at c5;cases hh : (x.holder == t)
    ·go_wp2
     go_roundw
     case rel=>exact ⟨k + 1,by omega,by go_num,hskip.out (by simp [unlocked,hu,hh]),HF⟩
     case measure=>simp [intOf]; omega
    ·have hset : Hid (MAt (wr.setCell ⟨l.nb,k * 10 + 6,none⟩ (.int .i64 (-1))) l { M with ns:=pmap (unlocked t) M.ns (k + 1) }):=by
      show MAt _ _ _;rw [pmap_succ _ _ _ x hx.out];exact MemAt.setNode H.out hx'.out 6 (unlocked t x) (.int .i64 (-1)) (by decide) (by simp [unlocked,hu,hh,PNode.cells])
     have hF2 : Hid (MFr l w (wr.setCell ⟨l.nb,k * 10 + 6,none⟩ (.int .i64 (-1)))):=Fr.setIn (.inl rfl) HF.out _ _;go_wp2
     go_roundw
     case rel=>exact ⟨k + 1,by omega,by go_num,hset,hF2⟩
     case measure=>simp [intOf]; omega
  ·have hk' : k = M.ns.length:=by omega
   subst hk';go_wp2
   go_end0
   exact ⟨rfl,by rw [hE.out]; exact H.out,HF.out⟩
def freed (n : Int) (e : PEntry) : PEntry:=if ofNode n e then PEntry.zero else e
theorem Free_calls (h : MAt w l M) (n : Int) :
  Calls Tryz.prog 90 #[.pointer (some ⟨l.m,0,none⟩),.int .i64 n] w fun e w'=>e = .returned (.tuple #[])/\MAt w' l (M.free n)/\MFr l w w':=by
 have hs:=h.nsmall;have hes:=h.esmall;have hc:=h.hd.cell;have H:=(mkH (MAt w l M) <|h);clear h
 go_enter Tryz.func90,Tryz.ntmps90
 go_wp2_with fail;refine (hasNode_calls H.out _).mono ?_;rintro e w' ⟨rfl,rfl⟩;cases hn : M.hasNode n
 ·have hE : Hid (M.free n = M):=by show _ = _; simp [PMem.free,hn]
  go_wp2;refine bodyPost_ret (results_none rfl _ _ _) rfl ?_;exact ⟨rfl,by rw [hE.out]; exact H.out,.of0 (Fr.refl _ _)⟩
 ·cases h0 : (n == 0)
  ·cases h1 : (n == 1)
   ·have hE : Hid (M.free n = { ns:=M.ns.set n.toNat PNode.zero,es:=pmap (freed n) M.es M.es.length }):=by
     show _ = _; rw [pmap_all]; simp [PMem.free,hn,bne,h0,h1,freed]
    have HN:=(mkH (M.hasNode n = true) <|hn);have H0:=(mkH (MAt w' l { M with es:=pmap (freed n) M.es 0 }) <|by rw [pmap_zero]; exact H.out);clear H hn;go_wp2;clear hc
    go_loopw [4,22] (fun _ i wr=>∃ k : Nat,k<=M.es.length/\i = .int .i64 k/\Hid (MAt wr l { M with es:=pmap (freed n) M.es k })/\Hid (MFr l w' wr)) (fun _ i _=>M.es.length - (intOf i).toNat)
    case atStart=>exact ⟨0,Nat.zero_le _,rfl,H0,.of0 (Fr.refl _ _)⟩
    case round =>
     clear H0;obtain ⟨k,hk,rfl,H,HF⟩:=hrel;have hc:=H.out.hd.cell;rw [show (({ M with es:=pmap (freed n) M.es k } : PMem).es).length = M.es.length from pmap_len _ _ _ hk] at hc;by_cases hlt : k < M.es.length
     ·have hx : Hid (M.es[k]? = some M.es[k]):=List.getElem?_eq_getElem hlt;generalize M.es[k] = x at hx;have hx' : Hid ((pmap (freed n) M.es k)[k]? = some x):=by show _ = _; rw [pmap_get _ _ _ hlt]; exact hx.out
      have c0:=MemAt.ent H.out hx'.out (j:=0) (u:=.bool x.used) rfl;have c1:=MemAt.ent H.out hx'.out (j:=1) (u:=.bool x.pending) rfl;have c2:=MemAt.ent H.out hx'.out (j:=2) (u:=.int .i64 x.src) rfl;have c3:=MemAt.ent H.out hx'.out (j:=3) (u:=.int .i64 (b2i x.side)) rfl;have c4:=MemAt.ent H.out hx'.out (j:=4) (u:=.int .i64 x.dst) rfl;have c5:=MemAt.ent H.out hx'.out (j:=5) (u:=.int .i64 x.stamp) rfl;rw [Nat.add_zero] at c0;have hf:=ownsRow_frozen H.out.ents;have hskip : Hid (freed n x = x->MAt wr l { M with es:=pmap (freed n) M.es (k + 1) }):=by
       intro e; rw [pmap_skip _ _ _ x hx.out e]; exact H.out
      cases hu : x.used
      ·rw [hu] at c0;go_wp2
       go_roundw
       case rel=>exact ⟨k + 1,by omega,by go_num,hskip.out (by simp [freed,ofNode,hu]),HF⟩
       case measure=>simp [intOf]; omega
      ·rw [hu] at c0;cases hh : (x.src == n)
       ·go_wp2
        go_roundw
        case rel=>exact ⟨k + 1,by omega,by go_num,hskip.out (by simp [freed,ofNode,hu,hh]),HF⟩
        case measure=>simp [intOf]; omega
       ·have hset:=MemAt.putEnt H.out hx'.out PEntry.zero;have hfx : freed n x = PEntry.zero:=by simp [freed,ofNode,hu,hh]
        rw [<- hfx,<- pmap_succ _ _ _ x hx.out] at hset;have HS:=(mkH (MAt _ l { M with es:=pmap (freed n) M.es (k + 1) }) <|hset);rw [hfx] at HS;clear hset hfx;go_wp2
        go_roundw
        case rel =>
         refine ⟨k + 1,by omega,by go_num,HS,?_⟩;refine Fr.trans HF.out ?_
         repeat (with_reducible first | refine Fr.setIn (.inr rfl) ?_ _ _ | refine Fr.drewN ?_ _ | refine Fr.drew ?_ | exact Fr.refl _ _)
        case measure=>simp [intOf]; omega
     ·have hk' : k = M.es.length:=by omega
      subst hk';obtain ⟨k,x,rfl,hlt',hx,_⟩:=hasNode_get HN.out;have HX:=(mkH (M.ns[k]? = some x) <|hx);have c0:=MemAt.node H.out HX.out (j:=0) (u:=.int .i64 x.key) rfl;have c1:=MemAt.node H.out HX.out (j:=1) (u:=.int .i64 x.value) rfl;have c2:=MemAt.node H.out HX.out (j:=2) (u:=.bool x.dead) rfl;have c3:=MemAt.node H.out HX.out (j:=3) (u:=.bool x.retired) rfl;have c4:=MemAt.node H.out HX.out (j:=4) (u:=.int .i64 x.retiredAt) rfl;have c5:=MemAt.node H.out HX.out (j:=5) (u:=.bool x.used) rfl;have c6:=MemAt.node H.out HX.out (j:=6) (u:=.int .i64 x.holder) rfl;have c7:=MemAt.node H.out HX.out (j:=7) (u:=.int .i64 x.links) rfl;have c8:=MemAt.node H.out HX.out (j:=8) (u:=.int .i64 (x.leads false)) rfl;have c9:=MemAt.node H.out HX.out (j:=9) (u:=.int .i64 (x.leads true)) rfl;have hf:=ownsRow_frozen H.out.nodes;rw [Nat.add_zero] at c0;clear hx;go_wp2
      go_end0
      rw [hE.out];refine ⟨rfl,MemAt.putNode H.out HX.out PNode.zero,Fr.trans HF.out ?_⟩
      repeat (with_reducible first | refine Fr.setIn (.inl rfl) ?_ _ _ | refine Fr.drewN ?_ _ | refine Fr.drew ?_ | exact Fr.refl _ _)
   ·have hE : Hid (M.free n = M):=by show _ = _; simp [PMem.free,bne,h1]
    go_wp2;refine bodyPost_ret (results_none rfl _ _ _) rfl ?_;exact ⟨rfl,by rw [hE.out]; exact H.out,.of0 (Fr.refl _ _)⟩
  ·have hE : Hid (M.free n = M):=by show _ = _; simp [PMem.free,bne,h0]
   go_wp2;refine bodyPost_ret (results_none rfl _ _ _) rfl ?_;exact ⟨rfl,by rw [hE.out]; exact H.out,.of0 (Fr.refl _ _)⟩
end
end
end Go.Proofs.YtfccelbmacjifabGreat
