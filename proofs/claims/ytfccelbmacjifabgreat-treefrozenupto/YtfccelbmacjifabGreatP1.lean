import Derived.Test.YtfccelbmacjifabGreatP0
import Derived.Test.YtfccelbmacjifabGreatRows
import Derived.WalkSpells
import Derived.Deep.QuietTactic
import Derived.BigQuiet
import Derived.BigRegion
set_option linter.unusedSimpArgs false
set_option maxRecDepth 100000
set_option maxHeartbeats 4000000
namespace Go.Proofs.YtfccelbmacjifabGreat
section
open Go.RowKit
def PNode.cells (n : PNode) : List Value :=
 [.int .i64 n.key,.int .i64 n.value,.bool n.dead,.bool n.retired,.int .i64 n.retiredAt,.bool n.used,.int .i64 n.holder,.int .i64 n.links,.int .i64 (n.leads false),.int .i64 (n.leads true)]
theorem PNode.cells_len (n : PNode) : n.cells.length = 10:=rfl
theorem PNode.cells_one (n : PNode) : ∀ u ∈ n.cells,u.oneCell' = true:=by
 intro u hu; simp only [PNode.cells,List.mem_cons,List.not_mem_nil,or_false] at hu;rcases hu with rfl | rfl | rfl | rfl | rfl | rfl | rfl | rfl | rfl | rfl <;> rfl
def PEntry.cells (e : PEntry) : List Value:=[.bool e.used,.bool e.pending,.int .i64 e.src,.int .i64 (b2i e.side),.int .i64 e.dst,.int .i64 e.stamp]
theorem PEntry.cells_len (e : PEntry) : e.cells.length = 6:=rfl
theorem PEntry.cells_one (n : PEntry) : ∀ u ∈ n.cells,u.oneCell' = true:=by
 intro u hu; simp only [PEntry.cells,List.mem_cons,List.not_mem_nil,or_false] at hu;rcases hu with rfl | rfl | rfl | rfl | rfl | rfl <;> rfl
structure MemAt (w : World) (m nb ncap eb ecap : Nat) (ns : List PNode) (es : List PEntry) : Prop where
 hd : At w m [.slice (some ⟨nb,0,none⟩) ns.length ncap,.slice (some ⟨eb,0,none⟩) es.length ecap] 128
 nodes : w.ownsRow 0 131 10 (.slice (some ⟨nb,0,none⟩) ns.length ncap) ns.length (ns.flatMap PNode.cells)
 ents : w.ownsRow 0 133 6 (.slice (some ⟨eb,0,none⟩) es.length ecap) es.length (es.flatMap PEntry.cells)
 nsmall : ns.length<=66
 esmall : es.length<=256
section
variable {w : World} {m nb ncap eb ecap : Nat} {ns : List PNode} {es : List PEntry}
theorem MemAt.node (h : MemAt w m nb ncap eb ecap ns es) {i : Nat} {x : PNode} (hx : ns[i]? = some x) {j : Nat} {u : Value} (hu : x.cells[j]? = some u) : w.cell? ⟨nb,i * 10 + j,none⟩ = some u:=by
 have hj : j < 10:=by have:=(List.getElem?_eq_some_iff.1 hu).1; simpa [PNode.cells_len] using this
 exact ownsRow_cell h.nodes ((tab_get PNode.cells 10 PNode.cells_len ns i j x hx hj).trans hu)
theorem MemAt.ent (h : MemAt w m nb ncap eb ecap ns es) {i : Nat} {x : PEntry} (hx : es[i]? = some x) {j : Nat} {u : Value} (hu : x.cells[j]? = some u) : w.cell? ⟨eb,i * 6 + j,none⟩ = some u:=by
 have hj : j < 6:=by have:=(List.getElem?_eq_some_iff.1 hu).1; simpa [PEntry.cells_len] using this
 exact ownsRow_cell h.ents ((tab_get PEntry.cells 6 PEntry.cells_len es i j x hx hj).trans hu)
theorem MemAt.apart (h : MemAt w m nb ncap eb ecap ns es) : m≠nb/\m≠eb/\nb≠eb:=by
 have h1:=h.hd.ne_row h.nodes (by decide);have h2:=h.hd.ne_row h.ents (by decide);have h3:=ownsRow_ne h.nodes h.ents (by decide);simp [Value.ownBlock] at h1 h2 h3;exact ⟨fun e=>h1 e.symm,fun e=>h2 e.symm,h3⟩
theorem MemAt.drew (h : MemAt w m nb ncap eb ecap ns es) : MemAt w.drew m nb ncap eb ecap ns es:=⟨h.hd,h.nodes,h.ents,h.nsmall,h.esmall⟩
theorem MemAt.fr {S : Nat->Prop} {w' : World} (h : MemAt w m nb ncap eb ecap ns es) (hf : Fr S w w') (hm : ¬ S m) (hn : ¬ S nb) (he : ¬ S eb) : MemAt w' m nb ncap eb ecap ns es :=
 ⟨hf.at h.hd hm,hf.owns h.nodes (fun k hk=>by simp [Value.ownBlock] at hk; subst hk; exact hn),hf.owns h.ents (fun k hk=>by simp [Value.ownBlock] at hk; subst hk; exact he),h.nsmall,h.esmall⟩
theorem MemAt.setEnt (h : MemAt w m nb ncap eb ecap ns es) {i : Nat} {x : PEntry} (hx : es[i]? = some x) (j : Nat) (y : PEntry) (u : Value) (hj : j < 6) (hs : x.cells.set j u = y.cells) :
  MemAt (w.setCell ⟨eb,i * 6 + j,none⟩ u) m nb ncap eb ecap ns (es.set i y):=by
 obtain ⟨h1,h2,h3⟩:=h.apart;have hl : (es.set i y).length = es.length:=by simp
 refine ⟨by rw [hl]; exact h.hd.setOther _ h2 _,ownsRow_setOther h.nodes (by simpa [Value.ownBlock] using h3) _,?_,h.nsmall,by rw [hl]; exact h.esmall⟩;rw [hl,<- tab_set PEntry.cells 6 PEntry.cells_len es i j x y u hx hj hs];exact ownsRow_set h.ents _ _
theorem MemAt.setNode (h : MemAt w m nb ncap eb ecap ns es) {i : Nat} {x : PNode} (hx : ns[i]? = some x) (j : Nat) (y : PNode) (u : Value) (hj : j < 10) (hs : x.cells.set j u = y.cells) :
  MemAt (w.setCell ⟨nb,i * 10 + j,none⟩ u) m nb ncap eb ecap (ns.set i y) es:=by
 obtain ⟨h1,h2,h3⟩:=h.apart;have hl : (ns.set i y).length = ns.length:=by simp
 refine ⟨by rw [hl]; exact h.hd.setOther _ h1 _,?_,ownsRow_setOther h.ents (by simpa [Value.ownBlock] using h3.symm) _,by rw [hl]; exact h.nsmall,h.esmall⟩;rw [hl,<- tab_set PNode.cells 10 PNode.cells_len ns i j x y u hx hj hs];exact ownsRow_set h.nodes _ _
theorem get_set_same {α : Type} {l : List α} {i : Nat} {x y : α} (hx : l[i]? = some x) : (l.set i y)[i]? = some y:=by
 have:=(List.getElem?_eq_some_iff.1 hx).1
 simp [this]
theorem MemAt.putEnt (h : MemAt w m nb ncap eb ecap ns es) {i : Nat} {x : PEntry} (hx : es[i]? = some x) (y : PEntry) :
  MemAt ((((((w.setCell ⟨eb,i * 6,none⟩ (.bool y.used)).setCell ⟨eb,i * 6 + 1,none⟩ (.bool y.pending)).setCell ⟨eb,i * 6 + 2,none⟩ (.int .i64 y.src)).setCell ⟨eb,i * 6 + 3,none⟩ (.int .i64 (b2i y.side))).setCell
   ⟨eb,i * 6 + 4,none⟩ (.int .i64 y.dst)).setCell ⟨eb,i * 6 + 5,none⟩ (.int .i64 y.stamp)) m nb ncap eb ecap ns (es.set i y):=by
 have a0:=h.setEnt hx 0 { x with used:=y.used } (.bool y.used) (by decide) rfl;have a1:=a0.setEnt (get_set_same hx) 1 { x with used:=y.used,pending:=y.pending } (.bool y.pending) (by decide) rfl;have a2:=a1.setEnt (get_set_same (get_set_same hx)) 2 { y with side:=x.side,dst:=x.dst,stamp:=x.stamp } (.int .i64 y.src) (by decide) rfl;have a3:=a2.setEnt (get_set_same (get_set_same (get_set_same hx))) 3 { y with dst:=x.dst,stamp:=x.stamp } (.int .i64 (b2i y.side)) (by decide) rfl;have a4:=a3.setEnt (get_set_same (get_set_same (get_set_same (get_set_same hx)))) 4 { y with stamp:=x.stamp } (.int .i64 y.dst) (by decide) rfl;have a5:=a4.setEnt (get_set_same (get_set_same (get_set_same (get_set_same (get_set_same hx))))) 5 y (.int .i64 y.stamp) (by decide) rfl;simpa [List.set_set] using a5
theorem MemAt.putNode (h : MemAt w m nb ncap eb ecap ns es) {i : Nat} {x : PNode} (hx : ns[i]? = some x) (y : PNode) :
  MemAt ((((((((((w.setCell ⟨nb,i * 10,none⟩ (.int .i64 y.key)).setCell ⟨nb,i * 10 + 1,none⟩ (.int .i64 y.value)).setCell ⟨nb,i * 10 + 2,none⟩ (.bool y.dead)).setCell ⟨nb,i * 10 + 3,none⟩ (.bool y.retired)).setCell
   ⟨nb,i * 10 + 4,none⟩ (.int .i64 y.retiredAt)).setCell ⟨nb,i * 10 + 5,none⟩ (.bool y.used)).setCell ⟨nb,i * 10 + 6,none⟩ (.int .i64 y.holder)).setCell ⟨nb,i * 10 + 7,none⟩ (.int .i64 y.links)).setCell
   ⟨nb,i * 10 + 8,none⟩ (.int .i64 (y.leads false))).setCell ⟨nb,i * 10 + 9,none⟩ (.int .i64 (y.leads true))) m nb ncap eb ecap (ns.set i y) es:=by
 have a0:=h.setNode hx 0 { x with key:=y.key } (.int .i64 y.key) (by decide) rfl;have g0:=get_set_same (y:={ x with key:=y.key }) hx;have a1:=a0.setNode g0 1 { x with key:=y.key,value:=y.value } (.int .i64 y.value) (by decide) rfl;have g1:=get_set_same (y:={ x with key:=y.key,value:=y.value }) g0;have a2:=a1.setNode g1 2 { x with key:=y.key,value:=y.value,dead:=y.dead } (.bool y.dead) (by decide) rfl;have g2:=get_set_same (y:={ x with key:=y.key,value:=y.value,dead:=y.dead }) g1;have a3:=a2.setNode g2 3 { x with key:=y.key,value:=y.value,dead:=y.dead,retired:=y.retired } (.bool y.retired) (by decide) rfl;have g3:=get_set_same (y:={ x with key:=y.key,value:=y.value,dead:=y.dead,retired:=y.retired }) g2;have a4:=a3.setNode g3 4 { x with key:=y.key,value:=y.value,dead:=y.dead,retired:=y.retired,retiredAt:=y.retiredAt } (.int .i64 y.retiredAt) (by decide) rfl;have g4:=get_set_same (y:={ x with key:=y.key,value:=y.value,dead:=y.dead,retired:=y.retired,retiredAt:=y.retiredAt }) g3;have a5:=a4.setNode g4 5 { y with holder:=x.holder,links:=x.links,leads:=x.leads } (.bool y.used) (by decide) rfl;have g5:=get_set_same (y:={ y with holder:=x.holder,links:=x.links,leads:=x.leads }) g4;have a6:=a5.setNode g5 6 { y with links:=x.links,leads:=x.leads } (.int .i64 y.holder) (by decide) rfl;have g6:=get_set_same (y:={ y with links:=x.links,leads:=x.leads }) g5;have a7:=a6.setNode g6 7 { y with leads:=x.leads } (.int .i64 y.links) (by decide) rfl;have g7:=get_set_same (y:={ y with leads:=x.leads }) g6;have a8:=a7.setNode g7 8 { y with leads:=upd x.leads false (y.leads false) } (.int .i64 (y.leads false)) (by decide) rfl;have g8:=get_set_same (y:={ y with leads:=upd x.leads false (y.leads false) }) g7;have a9:=a8.setNode g8 9 y (.int .i64 (y.leads true)) (by decide) rfl;simpa [List.set_set] using a9
end
end
section
open Go.RowKit
structure MLay where
 m : Nat
 nb : Nat
 ncap : Nat
 eb : Nat
 ecap : Nat
abbrev MAt (w : World) (l : MLay) (M : PMem) : Prop:=MemAt w l.m l.nb l.ncap l.eb l.ecap M.ns M.es
def lnk (n : Int) (s : Bool) : Value:=.agg #[.int .i64 n,.int .i64 (b2i s)]
section
variable {w : World} {l : MLay} {M : PMem}
theorem MAt.same {S : Nat->Prop} {w' : World} (h : MAt w l M) (hf : Fr S w w') (hm : ¬ S l.m) (hn : ¬ S l.nb) (he : ¬ S l.eb) : MAt w' l M:=MemAt.fr h hf hm hn he
theorem MAt.same0 {w' : World} (h : MAt w l M) (hf : Fr (fun _=>False) w w') : MAt w' l M:=MemAt.fr h hf (fun h=>h) (fun h=>h) (fun h=>h)
theorem freeEntry_calls (h : MAt w l M) :
  Calls Tryz.prog 84 #[.pointer (some ⟨l.m,0,none⟩)] w fun e w'=>e = .returned (.int .i64 M.freeEntry)/\w' = w:=by
 have hc:=h.hd.cell;have hs:=h.esmall;have H : Hid (MAt w l M):=h;clear h;unfold PMem.freeEntry
 go_enter Tryz.func84,Tryz.ntmps84
 go_wp2
 go_loop [3,9] (fun _ i=>∃ k : Nat,k<=M.es.length/\i = .int .i64 k/\Hid (∀ j,j < k->∀ x,M.es[j]? = some x->(!x.used) = false)) (fun _ i=>M.es.length - (intOf i).toNat)
 case atStart=>exact ⟨0,Nat.zero_le _,rfl,fun j hj=>by omega⟩
 case round =>
  obtain ⟨k,hk,rfl,hall⟩:=hrel;by_cases hlt : k < M.es.length
  ·have hx : Hid (M.es[k]? = some M.es[k]):=List.getElem?_eq_getElem hlt;generalize M.es[k] = x at hx;have c0:=MemAt.ent H.out hx.out (j:=0) (u:=.bool x.used) rfl;rw [Nat.add_zero] at c0;by_cases hu : (!x.used) = true
   ·have hf : Hid (find (fun x=>!x.used) M.es 0 = k):=find_hit _ M.es k x hx.out hall.out hu;go_wp2;go_ret;exact ⟨ret_int hf.out.symm,rfl⟩
   ·have hu' : (!x.used) = false:=by simpa using hu
    have hnext : Hid (∀ j,j < k + 1->∀ x,M.es[j]? = some x->(!x.used) = false):=by
     intro j hj y hy;by_cases e : j = k
     ·subst e; rw [hx.out] at hy; obtain rfl:=Option.some.inj hy; exact hu'
     ·exact hall.out j (by omega) y hy
    go_wp2
    go_round
    case rel=>exact ⟨k + 1,by omega,by go_num,hnext⟩
    case measure=>simp [intOf]; omega
  ·have hf : Hid (find (fun x=>!x.used) M.es 0 = -1):=find_miss _ M.es (fun j hj y hy=>hall.out j (by omega) y hy);go_wp2;go_ret;exact ⟨ret_int hf.out.symm,rfl⟩
theorem hasEntry_calls (h : MAt w l M) (i : Int) :
  Calls Tryz.prog 104 #[.pointer (some ⟨l.m,0,none⟩),.int .i64 i] w fun e w'=>e = .returned (.bool (M.hasEntry i))/\w' = w:=by
 have hc:=h.hd.cell;have hs:=h.esmall;clear h;unfold PMem.hasEntry;by_cases h1 : 0<=i
 ·by_cases h2 : i < M.es.length
  ·go_enter Tryz.func104,Tryz.ntmps104
   go_wp2;go_ret;exact ⟨ret_bool (isIn_true (by omega)).symm,rfl⟩
  ·go_enter Tryz.func104,Tryz.ntmps104
   go_wp2;go_ret;exact ⟨ret_bool (isIn_false (by omega)).symm,rfl⟩
 ·go_enter Tryz.func104,Tryz.ntmps104
  go_wp2;go_ret;exact ⟨ret_bool (isIn_false (by omega)).symm,rfl⟩
theorem hasNode_calls (h : MAt w l M) (i : Int) :
  Calls Tryz.prog 83 #[.pointer (some ⟨l.m,0,none⟩),.int .i64 i] w fun e w'=>e = .returned (.bool (M.hasNode i))/\w' = w:=by
 have hc:=h.hd.cell;have hs:=h.nsmall;clear h;unfold PMem.hasNode;by_cases h1 : 0<=i
 ·by_cases h2 : i < M.ns.length
  ·go_enter Tryz.func83,Tryz.ntmps83
   go_wp2;go_ret;exact ⟨ret_bool (isIn_true (by omega)).symm,rfl⟩
  ·go_enter Tryz.func83,Tryz.ntmps83
   go_wp2;go_ret;exact ⟨ret_bool (isIn_false (by omega)).symm,rfl⟩
 ·go_enter Tryz.func83,Tryz.ntmps83
  go_wp2;go_ret;exact ⟨ret_bool (isIn_false (by omega)).symm,rfl⟩
structure Boxed (w0 w : World) (l : MLay) (M : PMem) (b : Nat) (n : Int) (s : Bool) : Prop where
 mem : MAt w l M
 box : At w b [.int .i64 n,.int .i64 (b2i s)] 113
 fr : Fr (fun _=>False) w0 w
theorem Boxed.new (h : MAt w l M) (n : Int) (s : Bool) : Boxed w (w.alloc (.cells #[.int .i64 n,.int .i64 (b2i s)] 113)) l M w.heap.size n s :=
 ⟨MAt.same0 h ((Fr.refl _ _).alloc _),At.new w _ _,(Fr.refl _ _).alloc _⟩
theorem Boxed.drewN {w0 : World} {b : Nat} {n : Int} {s : Bool} (h : Boxed w0 w l M b n s) (q : Nat) : Boxed w0 (w.drewN q) l M b n s:=by
 have hf : Fr (fun _=>False) w (w.drewN q):=(Fr.refl _ _).drewN q;exact ⟨MAt.same0 h.mem hf,hf.at h.box (fun h=>h),h.fr.trans hf⟩
theorem Boxed.step {w0 w' : World} {b : Nat} {n : Int} {s : Bool} (h : Boxed w0 w l M b n s) (hf : Fr (fun _=>False) w w') : Boxed w0 w' l M b n s :=
 ⟨MAt.same0 h.mem hf,hf.at h.box (fun h=>h),h.fr.trans hf⟩
def MFr (l : MLay) (w w' : World) : Prop:=Fr (fun k=>k = l.nb\/k = l.eb) w w'
theorem MFr.of0 {w' : World} (h : Fr (fun _=>False) w w') : MFr l w w':=Fr.mono h (fun _ _ h=>h.elim)
theorem MFr.trans {a b c : World} (h : MFr l a b) (k : MFr l b c) : MFr l a c:=Fr.trans h k
theorem pending_calls (h : MAt w l M) (n : Int) (s : Bool) :
  Calls Tryz.prog 106 #[.pointer (some ⟨l.m,0,none⟩),lnk n s] w fun e w'=>e = .returned (.int .i64 (M.pending n s))/\Fr (fun _=>False) w w':=by
 have hs:=h.esmall;have HB:=(mkH (Boxed _ _ _ _ _ _ _) <|Boxed.new h n s);have hc:=HB.out.mem.hd.cell;clear h;unfold PMem.pending lnk
 go_enter Tryz.func106,Tryz.ntmps106
 go_wp2;clear hc
 go_loopw [5,11] (fun _ i wr=>∃ k : Nat,k<=M.es.length/\i = .int .i64 k/\Hid (∀ j,j < k->∀ x,M.es[j]? = some x->isPd n s x = false)/\Hid (Boxed w wr l M w.heap.size n s)) (fun _ i _=>M.es.length - (intOf i).toNat)
 case atStart=>exact ⟨0,Nat.zero_le _,rfl,fun j hj=>by omega,HB⟩
 case round =>
  clear HB;obtain ⟨k,hk,rfl,hall,HB⟩:=hrel;have hc:=HB.out.mem.hd.cell;have hb:=HB.out.box.cell;by_cases hlt : k < M.es.length
  ·have hx : Hid (M.es[k]? = some M.es[k]):=List.getElem?_eq_getElem hlt;generalize M.es[k] = x at hx;have c0:=MemAt.ent HB.out.mem hx.out (j:=1) (u:=.bool x.pending) rfl;have c1:=MemAt.ent HB.out.mem hx.out (j:=2) (u:=.int .i64 x.src) rfl;have c2:=MemAt.ent HB.out.mem hx.out (j:=3) (u:=.int .i64 (b2i x.side)) rfl;have hnext : Hid (isPd n s x = false->∀ j,j < k + 1->∀ x,M.es[j]? = some x->isPd n s x = false):=by
    intro hu' j hj y hy;by_cases e : j = k
    ·subst e; rw [hx.out] at hy; obtain rfl:=Option.some.inj hy; exact hu'
    ·exact hall.out j (by omega) y hy
   have hf : Hid (isPd n s x = true->find (isPd n s) M.es 0 = k):=find_hit _ M.es k x hx.out hall.out;cases hp : x.pending
   ·rw [hp] at c0;go_wp2_with fail
    go_quiet (fail)
    go_wp2
    go_roundw
    case rel=>exact ⟨k + 1,by omega,by go_num,hnext.out (by simp [isPd,hp]),HB.out.drewN _⟩
    case measure=>simp [intOf]; omega
   ·rw [hp] at c0;cases hq : (x.src == n)
    ·cases hr : (b2i x.side == b2i s)
     ·go_wp2_with fail
      go_quiet (fail)
      go_wp2
      go_roundw
      case rel=>exact ⟨k + 1,by omega,by go_num,hnext.out (by simp [isPd,hp,hq]),HB.out.drewN _⟩
      case measure=>simp [intOf]; omega
     ·go_wp2_with fail
      go_quiet (fail)
      go_wp2
      go_roundw
      case rel=>exact ⟨k + 1,by omega,by go_num,hnext.out (by simp [isPd,hp,hq]),HB.out.drewN _⟩
      case measure=>simp [intOf]; omega
    ·cases hr : (b2i x.side == b2i s)
     ·go_wp2_with fail
      go_quiet (fail)
      go_wp2
      go_roundw
      case rel=>exact ⟨k + 1,by omega,by go_num,hnext.out (by rw [b2i_beq] at hr; simp [isPd,hp,hq,hr]),HB.out.drewN _⟩
      case measure=>simp [intOf]; omega
     ·go_wp2_with fail
      go_quiet (fail)
      go_wp2;go_ret;exact ⟨ret_int (hf.out (by rw [b2i_beq] at hr; simp [isPd,hp,hq,hr])).symm,(HB.out.drewN _).fr⟩
  ·have hf : Hid (find (isPd n s) M.es 0 = -1):=find_miss _ M.es (fun j hj y hy=>hall.out j (by omega) y hy);go_wp2;go_ret;exact ⟨ret_int hf.out.symm,HB.out.fr⟩
end
end
section
open Go.RowKit
section
variable {w : World} {l : MLay} {M : PMem}
theorem hasLink_calls (h : MAt w l M) (n : Int) (s : Bool) :
  Calls Tryz.prog 105 #[.pointer (some ⟨l.m,0,none⟩),lnk n s] w fun e w'=>e = .returned (.bool (M.hasLink n s))/\Fr (fun _=>False) w w':=by
 have hs:=h.nsmall;have HB:=(mkH (Boxed _ _ _ _ _ _ _) <|Boxed.new h n s);have hc:=HB.out.mem.hd.cell;have hb:=HB.out.box.cell;clear h;unfold lnk;cases hn : M.hasNode n
 ·have hE : Hid (M.hasLink n s = false):=by show _ = _; simp [PMem.hasLink,hn]
  cases s
  all_goals
   simp only [b2i_true,b2i_false] at hb ⊢
   go_enter Tryz.func105,Tryz.ntmps105
   go_wp2_with fail;refine (hasNode_calls HB.out.mem n).mono ?_;rintro e w' ⟨rfl,rfl⟩;rw [hn];go_wp2;go_ret;exact ⟨ret_bool hE.out.symm,HB.out.fr⟩
 ·obtain ⟨h0,h1⟩:=isIn_iff.1 hn;obtain ⟨k,rfl⟩:=Int.eq_ofNat_of_zero_le h0;have hlt : k < M.ns.length:=by omega
  have hx : Hid (M.ns[k]? = some M.ns[k]):=List.getElem?_eq_getElem hlt;generalize M.ns[k] = x at hx;have c0:=MemAt.node HB.out.mem hx.out (j:=7) (u:=.int .i64 x.links) rfl;have hE : Hid (M.hasLink k s = decide (b2i s < x.links)):=by show _ = _; simp [PMem.hasLink,hn,PMem.node,hx.out]
  have hn' : Hid (M.hasNode (k : Int) = true):=hn;clear hn;by_cases hlk : b2i s < x.links
  ·rw [decide_eq_true hlk] at hE;cases s
   all_goals
    simp only [b2i_true,b2i_false] at hb hc c0 hlk HB ⊢
    go_enter Tryz.func105,Tryz.ntmps105
    go_wp2_with fail;refine (hasNode_calls HB.out.mem k).mono ?_;rintro e w' ⟨rfl,rfl⟩;rw [hn'.out];go_wp2_with fail
    go_quiet (fail)
    go_wp2;go_ret;exact ⟨ret_bool (by first | exact hE.out.symm | (rw [hE.out]; exact decide_eq_true (by omega))),(HB.out.drewN _).fr⟩
  ·rw [decide_eq_false hlk] at hE;cases s
   all_goals
    simp only [b2i_true,b2i_false] at hb hc c0 hlk HB ⊢
    go_enter Tryz.func105,Tryz.ntmps105
    go_wp2_with fail;refine (hasNode_calls HB.out.mem k).mono ?_;rintro e w' ⟨rfl,rfl⟩;rw [hn'.out];go_wp2_with fail
    go_quiet (fail)
    go_wp2;go_ret;exact ⟨ret_bool (by first | exact hE.out.symm | (rw [hE.out]; exact decide_eq_false (by omega))),(HB.out.drewN _).fr⟩
theorem Pend_calls (h : MAt w l M) (n : Int) (s : Bool) (to : Int) :
  Calls Tryz.prog 85 #[.pointer (some ⟨l.m,0,none⟩),lnk n s,.int .i64 to] w fun e w'=>e = .returned (.tuple #[])/\MAt w' l (M.pend n s to)/\MFr l w w':=by
 have hs:=h.esmall;have HB:=(mkH (Boxed _ _ _ _ _ _ _) <|Boxed.new h n s);have hc:=HB.out.mem.hd.cell;have hb:=HB.out.box.cell;clear h;unfold lnk
 go_enter Tryz.func85,Tryz.ntmps85
 go_wp2_with fail;refine (freeEntry_calls HB.out.mem).mono ?_;rintro e w' ⟨rfl,rfl⟩;go_wp2_with fail;refine (hasEntry_calls HB.out.mem _).mono ?_;rintro e w' ⟨rfl,rfl⟩;cases he : M.hasEntry M.freeEntry
 ·have hE : Hid (M.pend n s to = M):=by show _ = _; simp [PMem.pend,he]
  go_wp2;refine bodyPost_ret (results_none rfl _ _ _) rfl ?_;exact ⟨rfl,by rw [hE.out]; exact HB.out.mem,.of0 HB.out.fr⟩
 ·go_wp2_with fail;refine (hasLink_calls HB.out.mem n s).mono ?_;rintro e w1 ⟨rfl,hF⟩;have HB1:=(mkH (Boxed _ _ _ _ _ _ _) <|HB.out.step hF);clear hF HB hc hb;cases hl : M.hasLink n s
  ·have hE : Hid (M.pend n s to = M):=by show _ = _; simp [PMem.pend,he,hl]
   go_wp2;refine bodyPost_ret (results_none rfl _ _ _) rfl ?_;exact ⟨rfl,by rw [hE.out]; exact HB1.out.mem,.of0 HB1.out.fr⟩
  ·have hE : Hid (M.pend n s to = M.setE M.freeEntry ⟨true,true,n,s,to,0⟩):=by show _ = _; simp [PMem.pend,he,hl]
   obtain ⟨h0,h1⟩:=isIn_iff.1 he;obtain ⟨k,hk⟩:=Int.eq_ofNat_of_zero_le h0;rw [hk] at hE ⊢;have hlt : k < M.es.length:=by omega
   have hx : Hid (M.es[k]? = some M.es[k]):=List.getElem?_eq_getElem hlt;generalize M.es[k] = x at hx;have hc:=HB1.out.mem.hd.cell;have hb:=HB1.out.box.cell;have c0:=MemAt.ent HB1.out.mem hx.out (j:=0) (u:=.bool x.used) rfl;have c1:=MemAt.ent HB1.out.mem hx.out (j:=1) (u:=.bool x.pending) rfl;have c2:=MemAt.ent HB1.out.mem hx.out (j:=2) (u:=.int .i64 x.src) rfl;have c3:=MemAt.ent HB1.out.mem hx.out (j:=3) (u:=.int .i64 (b2i x.side)) rfl;have c4:=MemAt.ent HB1.out.mem hx.out (j:=4) (u:=.int .i64 x.dst) rfl;have c5:=MemAt.ent HB1.out.mem hx.out (j:=5) (u:=.int .i64 x.stamp) rfl;have hf:=ownsRow_frozen HB1.out.mem.ents;rw [Nat.add_zero] at c0;clear he h0 h1 hk;go_wp2_with fail;go_region;go_wp2
   go_end0
   rw [hE.out];refine ⟨rfl,?_,(MFr.of0 HB1.out.fr).trans ?_⟩
   ·exact MemAt.drew (MemAt.putEnt HB1.out.mem hx.out ⟨true,true,n,s,to,0⟩)
   ·unfold MFr
    repeat (with_reducible first | refine Fr.setIn (.inr rfl) ?_ _ _ | refine Fr.drewN ?_ _ | refine Fr.drew ?_ | exact Fr.refl _ _)
theorem Stamp_calls (h : MAt w l M) (n : Int) (s : Bool) (st : Int) :
  Calls Tryz.prog 86 #[.pointer (some ⟨l.m,0,none⟩),lnk n s,.int .i64 st] w fun e w'=>e = .returned (.tuple #[])/\MAt w' l (M.stamp n s st)/\MFr l w w':=by
 have hs:=h.esmall;have ap:=h.apart;have HB:=(mkH (Boxed _ _ _ _ _ _ _) <|Boxed.new h n s);have hc:=HB.out.mem.hd.cell;have hb:=HB.out.box.cell;obtain ⟨ap1,ap2,ap3⟩:=ap;have ap2':=ap2.symm;clear h;unfold lnk
 go_enter Tryz.func86,Tryz.ntmps86
 go_wp2_with fail;refine (pending_calls HB.out.mem n s).mono ?_;rintro e w1 ⟨rfl,hF⟩;have HB1:=(mkH (Boxed _ _ _ _ _ _ _) <|HB.out.step hF);clear hF HB hc hb;have hc:=HB1.out.mem.hd.cell;have hb:=HB1.out.box.cell;go_wp2_with fail;refine (hasEntry_calls HB1.out.mem _).mono ?_;rintro e w' ⟨rfl,rfl⟩;cases he : M.hasEntry (M.pending n s)
 ·have hE : Hid (M.stamp n s st = M):=by show _ = _; simp [PMem.stamp,he]
  go_wp2;refine bodyPost_ret (results_none rfl _ _ _) rfl ?_;exact ⟨rfl,by rw [hE.out]; exact HB1.out.mem,.of0 HB1.out.fr⟩
 ·have hE : Hid (M.stamp n s st = M.setE (M.pending n s) { M.ent (M.pending n s) with pending:=false,stamp:=st }):=by show _ = _; simp [PMem.stamp,he]
  obtain ⟨h0,h1⟩:=isIn_iff.1 he;obtain ⟨k,hk⟩:=Int.eq_ofNat_of_zero_le h0;rw [hk] at hE ⊢;have hlt : k < M.es.length:=by omega
  have hx : Hid (M.es[k]? = some M.es[k]):=List.getElem?_eq_getElem hlt;generalize M.es[k] = x at hx;have hE' : Hid (M.stamp n s st = { M with es:=M.es.set k { x with pending:=false,stamp:=st } }):=by show _ = _; rw [hE.out]; simp [PMem.setE,PMem.ent,hx.out]
  have c1:=MemAt.ent HB1.out.mem hx.out (j:=1) (u:=.bool x.pending) rfl;have c5:=MemAt.ent HB1.out.mem hx.out (j:=5) (u:=.int .i64 x.stamp) rfl;have hf:=ownsRow_frozen HB1.out.mem.ents;clear he h0 h1 hk hE;go_wp2
  go_end0
  rw [hE'.out];refine ⟨rfl,?_,(MFr.of0 HB1.out.fr).trans ?_⟩
  ·have a1:=MemAt.setEnt HB1.out.mem hx.out 1 { x with pending:=false } (.bool false) (by decide) rfl;have a2:=a1.setEnt (get_set_same hx.out) 5 { x with pending:=false,stamp:=st } (.int .i64 st) (by decide) rfl;rw [List.set_set] at a2;exact a2
  ·unfold MFr
   repeat (with_reducible first | refine Fr.setIn (.inr rfl) ?_ _ _ | refine Fr.drewN ?_ _ | refine Fr.drew ?_ | exact Fr.refl _ _)
theorem StampNew_calls (h : MAt w l M) (n st : Int) :
  Calls Tryz.prog 71 #[.pointer (some ⟨l.m,0,none⟩),.int .i64 n,.int .i64 st] w fun e w'=>e = .returned (.tuple #[])/\MAt w' l (M.stampNew n st)/\MFr l w w':=by
 have H:=(mkH (MAt w l M) <|h);clear h
 go_enter Tryz.func71,Tryz.ntmps71
 go_wp2_with fail
 go_loopw [6] (fun i wr=>(i = .int .i64 0/\Hid (wr = w))\/(i = .int .i64 1/\Hid (MAt wr l (M.stamp n false st))/\Hid (MFr l w wr))\/(i = .int .i64 2/\Hid (MAt wr l (M.stampNew n st))/\Hid (MFr l w wr))) (fun i _=>2 - (intOf i).toNat)
 case atStart=>exact .inl ⟨rfl,rfl⟩
 case round =>
  rcases hrel with ⟨rfl,hw⟩ | ⟨rfl,H1,F1⟩ | ⟨rfl,H2,F2⟩
  ·have hw':=hw.out;subst hw';clear hw;go_wp2_with fail;refine (Stamp_calls H.out n false st).mono ?_;rintro e w1 ⟨rfl,h1,h2⟩;have H1:=(mkH (MAt _ _ _) <|h1);have F1:=(mkH (MFr _ _ _) <|h2);clear h1 h2;go_wp2
   go_roundw
   case rel=>exact .inr (.inl ⟨by go_num,H1,F1⟩)
   case measure=>simp [intOf]
  ·go_wp2_with fail;refine (Stamp_calls H1.out n true st).mono ?_;rintro e w1 ⟨rfl,h1,h2⟩;have H2:=(mkH (MAt _ _ _) <|h1);have F2:=(mkH (MFr _ _ _) <|F1.out.trans h2);clear h1 h2;go_wp2
   go_roundw
   case rel=>exact .inr (.inr ⟨by go_num,H2,F2⟩)
   case measure=>simp [intOf]
  ·go_wp2
   go_end0
   exact ⟨rfl,H2.out,F2.out⟩
theorem MAt.nodeSet {w' : World} {k : Nat} {x : PNode} (hx : M.ns[k]? = some x) (y : PNode) (h : MemAt w' l.m l.nb l.ncap l.eb l.ecap (M.ns.set k y) M.es) (g : PNode->PNode) (hg : g x = y) : MAt w' l (M.modN k g):=by
 have e : M.modN k g = { M with ns:=M.ns.set k y }:=by
  unfold PMem.modN;have : M.hasNode (k : Int) = true:=by
   have:=(List.getElem?_eq_some_iff.1 hx).1
   exact isIn_true (by omega)
  rw [this];simp only [if_pos,Int.toNat_natCast]
  congr 1
  apply List.ext_getElem?;intro j;rw [List.getElem?_modify,List.getElem?_set];by_cases hj : k = j
  ·subst hj;obtain ⟨h1,h2⟩:=List.getElem?_eq_some_iff.1 hx;simp [h1,h2,hg]
  ·simp [hj]
 rw [e]; exact h
theorem AddLink_calls (h : MAt w l M) (n to : Int) :
  Calls Tryz.prog 70 #[.pointer (some ⟨l.m,0,none⟩),.int .i64 n,.int .i64 to] w fun e w'=>e = .returned (.tuple #[])/\MAt w' l (M.addLink n to)/\MFr l w w':=by
 have hs:=h.nsmall;have hc:=h.hd.cell;obtain ⟨ap1,ap2,ap3⟩:=h.apart;have ap1':=ap1.symm;have H:=(mkH (MAt w l M) <|h);clear h
 go_enter Tryz.func70,Tryz.ntmps70
 go_wp2_with fail;refine (hasNode_calls H.out n).mono ?_;rintro e w' ⟨rfl,rfl⟩;cases hn : M.hasNode n
 ·have hE : Hid (M.addLink n to = M):=by show _ = _; simp [PMem.addLink,hn]
  go_wp2;refine bodyPost_ret (results_none rfl _ _ _) rfl ?_;exact ⟨rfl,by rw [hE.out]; exact H.out,.of0 (Fr.refl _ _)⟩
 ·go_wp2_with fail;refine (freeEntry_calls H.out).mono ?_;rintro e w' ⟨rfl,rfl⟩;cases hfe : (M.freeEntry == -1)
  ·obtain ⟨h0,h1⟩:=isIn_iff.1 hn;obtain ⟨k,rfl⟩:=Int.eq_ofNat_of_zero_le h0;have hlt : k < M.ns.length:=by omega
   have hx : Hid (M.ns[k]? = some M.ns[k]):=List.getElem?_eq_getElem hlt;generalize M.ns[k] = x at hx;have c7:=MemAt.node H.out hx.out (j:=7) (u:=.int .i64 x.links) rfl;have c8:=MemAt.node H.out hx.out (j:=8) (u:=.int .i64 (x.leads false)) rfl;have c9:=MemAt.node H.out hx.out (j:=9) (u:=.int .i64 (x.leads true)) rfl;have hf:=ownsRow_frozen H.out.nodes;have hnode : Hid (M.node k = x):=by show _ = _; simp [PMem.node,hn,hx.out]
   have hn':=(mkH (M.hasNode (k : Int) = true) <|hn);clear hn h0 h1
   match hlk : x.links with
   | 0 =>
    have hE : Hid (M.addLink k to = (M.modN k (linked false to)).pend k false to):=by
     show _ = _;have : (M.freeEntry != -1) = true:=by simp [bne,hfe]
     simp [PMem.addLink,hn'.out,this,hnode.out,hlk]
    rw [hlk] at c7;go_wp2_with fail;have a1:=MemAt.setNode H.out hx.out 7 { x with links:=1 } (.int .i64 1) (by decide) rfl;have a2:=a1.setNode (get_set_same hx.out) 8 { x with links:=1,leads:=upd x.leads false to } (.int .i64 to) (by decide) rfl;rw [List.set_set] at a2;have a3:=MAt.nodeSet hx.out _ a2 (linked false to) (by simp [linked,hlk]);refine (Pend_calls a3 k false to).mono ?_;rintro e w1 ⟨rfl,h1,h2⟩;have H1:=(mkH (MAt _ _ _) <|h1);have F1:=(mkH (MFr _ _ _) <|h2);clear h1 h2 a1 a2 a3;go_wp2
    go_end0
    refine ⟨rfl,by rw [hE.out]; exact H1.out,Fr.trans ?_ F1.out⟩
    repeat (with_reducible first | refine Fr.setIn (.inl rfl) ?_ _ _ | refine Fr.drewN ?_ _ | refine Fr.drew ?_ | exact Fr.refl _ _)
   | 1 =>
    have hE : Hid (M.addLink k to = (M.modN k (linked true to)).pend k true to):=by
     show _ = _;have : (M.freeEntry != -1) = true:=by simp [bne,hfe]
     simp [PMem.addLink,hn'.out,this,hnode.out,hlk]
    rw [hlk] at c7;go_wp2_with fail;have a1:=MemAt.setNode H.out hx.out 7 { x with links:=2 } (.int .i64 2) (by decide) rfl;have a2:=a1.setNode (get_set_same hx.out) 9 { x with links:=2,leads:=upd x.leads true to } (.int .i64 to) (by decide) rfl;rw [List.set_set] at a2;have a3:=MAt.nodeSet hx.out _ a2 (linked true to) (by simp [linked,hlk]);refine (Pend_calls a3 k true to).mono ?_;rintro e w1 ⟨rfl,h1,h2⟩;have H1:=(mkH (MAt _ _ _) <|h1);have F1:=(mkH (MFr _ _ _) <|h2);clear h1 h2 a1 a2 a3;go_wp2
    go_end0
    refine ⟨rfl,by rw [hE.out]; exact H1.out,Fr.trans ?_ F1.out⟩
    repeat (with_reducible first | refine Fr.setIn (.inl rfl) ?_ _ _ | refine Fr.drewN ?_ _ | refine Fr.drew ?_ | exact Fr.refl _ _)
   | q + 2 =>
    have hE : Hid (M.addLink k to = M):=by show _ = _; simp [PMem.addLink,hnode.out,hlk]
    rw [hlk] at c7;have hq : Hid (((q : Int) + 2 < 0) = False):=by show _ = _; simp; omega
    go_wp2;refine bodyPost_ret (results_none rfl _ _ _) rfl ?_;exact ⟨rfl,by rw [hE.out]; exact H.out,.of0 (Fr.refl _ _)⟩
  ·have hE : Hid (M.addLink n to = M):=by show _ = _; simp [PMem.addLink,bne,hfe]
   go_wp2;refine bodyPost_ret (results_none rfl _ _ _) rfl ?_;exact ⟨rfl,by rw [hE.out]; exact H.out,.of0 (Fr.refl _ _)⟩
end
end
section
open Go.RowKit
theorem count_take {α : Type} (p : α->Bool) (l : List α) (k : Nat) (x : α) (hx : l[k]? = some x) : count p (l.take (k + 1)) = count p (l.take k) + if p x then 1 else 0:=by
 have hk:=(List.getElem?_eq_some_iff.1 hx).1;have he:=(List.getElem?_eq_some_iff.1 hx).2;unfold count;rw [List.take_succ_eq_append_getElem hk,List.filter_append,List.length_append,he];by_cases h : p x = true <;> simp [h]
theorem count_le {α : Type} (p : α->Bool) (l : List α) (k : Nat) : count p (l.take k)<=k:=by
 unfold count
 have:=List.length_filter_le p (l.take k)
 have:=List.length_take_le k l
 omega
section
variable {w : World} {l : MLay} {M : PMem}
theorem MRoom_calls (h : MAt w l M) :
  Calls Tryz.prog 61 #[.pointer (some ⟨l.m,0,none⟩)] w fun e w'=>e = .returned (.tuple #[.int .i64 M.room.1,.int .i64 M.room.2])/\w' = w:=by
 have hc:=h.hd.cell;have hs:=h.esmall;have hn:=h.nsmall;have H : Hid (MAt w l M):=h;clear h
 go_enter Tryz.func61,Tryz.ntmps61
 go_wp2
 go_loop [4,5,13] (fun c _ i=>∃ k : Nat,k<=M.ns.length/\i = .int .i64 k/\c = .int .i64 (count (fun x=>!x.used) (M.ns.take k))) (fun _ _ i=>M.ns.length - (intOf i).toNat)
 case atStart=>exact ⟨0,Nat.zero_le _,rfl,rfl⟩
 case round =>
  obtain ⟨k,hk,rfl,rfl⟩:=hrel;have hb:=count_le (fun x : PNode=>!x.used) M.ns k;by_cases hlt : k < M.ns.length
  ·have hx : Hid (M.ns[k]? = some M.ns[k]):=List.getElem?_eq_getElem hlt;generalize M.ns[k] = x at hx;have c0:=MemAt.node H.out hx.out (j:=5) (u:=.bool x.used) rfl;have hn : Hid (count (fun x=>!x.used) (M.ns.take (k + 1)) = count (fun x=>!x.used) (M.ns.take k) + if !x.used then 1 else 0):=count_take _ M.ns k x hx.out;cases hu : x.used
   ·rw [hu] at c0 hn;go_wp2
    go_round
    case rel=>exact ⟨k + 1,by omega,by go_num,by rw [hn.out]; go_num⟩
    case measure=>simp [intOf]; omega
   ·rw [hu] at c0 hn;go_wp2
    go_round
    case rel=>exact ⟨k + 1,by omega,by go_num,by rw [hn.out]; go_num⟩
    case measure=>simp [intOf]; omega
  ·have hk' : k = M.ns.length:=by omega
   subst hk';rw [List.take_length];clear hb;go_wp2
   go_loop [6,7,33] (fun c _ i=>∃ k : Nat,k<=M.es.length/\i = .int .i64 k/\c = .int .i64 (count (fun x=>!x.used) (M.es.take k))) (fun _ _ i=>M.es.length - (intOf i).toNat)
   case atStart=>exact ⟨0,Nat.zero_le _,rfl,rfl⟩
   case round =>
    obtain ⟨k,hk,rfl,rfl⟩:=hrel;have hb:=count_le (fun x : PEntry=>!x.used) M.es k;by_cases hlt : k < M.es.length
    ·have hx : Hid (M.es[k]? = some M.es[k]):=List.getElem?_eq_getElem hlt;generalize M.es[k] = x at hx;have c0:=MemAt.ent H.out hx.out (j:=0) (u:=.bool x.used) rfl;rw [Nat.add_zero] at c0;have hn : Hid (count (fun x=>!x.used) (M.es.take (k + 1)) = count (fun x=>!x.used) (M.es.take k) + if !x.used then 1 else 0):=count_take _ M.es k x hx.out;cases hu : x.used
     ·rw [hu] at c0 hn;go_wp2
      go_round
      case rel=>exact ⟨k + 1,by omega,by go_num,by rw [hn.out]; go_num⟩
      case measure=>simp [intOf]; omega
     ·rw [hu] at c0 hn;go_wp2
      go_round
      case rel=>exact ⟨k + 1,by omega,by go_num,by rw [hn.out]; go_num⟩
      case measure=>simp [intOf]; omega
    ·have hk' : k = M.es.length:=by omega
     subst hk';rw [List.take_length];clear hb;go_wp2;go_ret2;exact ⟨rfl,rfl⟩
end
end
section
open Go.RowKit
theorem Tryz.infoNode : (Tryz.prog.info? 131).map (fun i=>(i.zero,i.size,i.bytes)) = some (some (.agg PNode.zero.cells.toArray),10,72):=by kernel_rfl
theorem Tryz.infoEntry : (Tryz.prog.info? 133).map (fun i=>(i.zero,i.size,i.bytes)) = some (some (.agg PEntry.zero.cells.toArray),6,40):=by kernel_rfl
def anchorNode : PNode:={ PNode.zero with used:=true,holder:=-1 }
def endNode : PNode:={ PNode.zero with key:=1099511627777,used:=true,holder:=-1 }
def freshNodes (k : Nat) : List PNode:=anchorNode :: endNode :: List.replicate k PNode.zero
def freshMem (nn en : Nat) : PMem:=((⟨freshNodes nn,List.replicate en PEntry.zero⟩ : PMem).addLink 0 1).stampNew 0 0
theorem freshNodes_succ (k : Nat) : (freshNodes (k + 1)).flatMap PNode.cells = (freshNodes k).flatMap PNode.cells ++ PNode.zero.cells:=by
 simp only [freshNodes,List.replicate_succ',List.flatMap_cons,List.flatMap_append,List.append_assoc,List.flatMap_nil,List.append_nil]
theorem freshEnts_succ (k : Nat) : (List.replicate (k + 1) PEntry.zero).flatMap PEntry.cells = (List.replicate k PEntry.zero).flatMap PEntry.cells ++ PEntry.zero.cells:=by
 simp only [List.replicate_succ',List.flatMap_cons,List.flatMap_append,List.flatMap_nil,List.append_nil]
structure MemGrows (B : Nat) (w wr : World) (m : Nat) (nv ev : Value) (a b : Nat) (xs ys : List Value) : Prop where
 hd : At wr m [nv,ev] 128
 nodes : wr.ownsRow B 131 10 nv a xs
 ents : wr.ownsRow B 133 6 ev b ys
 fr : Fr (fun _=>False) w wr
 base : w.heap.size = B
 hm : B<=m
section
variable {B : Nat} {w wr w1 : World} {m : Nat} {nv ev : Value} {a b : Nat} {xs ys : List Value}
theorem MemGrows.pushN (h : MemGrows B w wr m nv ev a b xs ys) {g cap : Nat} {c x : List Value} {e : TypeId} (ho : w1.ownsRow B 131 10 (.slice (some ⟨g,0,none⟩) (a + 1) cap) (a + 1) (xs ++ x))
  (hg : (wr.alloc (.cells c.toArray e)).grownBy w1 nv.ownBlock) : At w1 m [nv,ev] 128 /\
  MemGrows B w (w1.setCell ⟨m,0,none⟩ (.slice (some ⟨g,0,none⟩) (a + 1) cap)) m (.slice (some ⟨g,0,none⟩) (a + 1) cap) ev (a + 1) b (xs ++ x) ys:=by
 have hA : At w1 m [nv,ev] 128:=(h.hd.alloc _).grown hg (h.hd.ne_row (ownsRow_base h.nodes) (by decide));have he : w1.ownsRow B 133 6 ev b ys:=(h.ents.alloc _).kept hg (ownsRow_ne (ownsRow_base h.ents) (ownsRow_base h.nodes) (by decide));refine ⟨hA,hA.set 0 _,?_,?_,?_,h.base,h.hm⟩
 ·exact ownsRow_setOtherB ho (hA.ne_row (ownsRow_base ho) (by decide)) _
 ·exact ownsRow_setOtherB he (hA.ne_row (ownsRow_base he) (by decide)) _
 ·refine Fr.setNew (by rw [h.base]; exact h.hm) ((h.fr.alloc _).grown hg ?_) _ _;intro k hk; right; rw [h.base]; exact (h.nodes.lt k hk).1
theorem MemGrows.pushE (h : MemGrows B w wr m nv ev a b xs ys) {g cap : Nat} {c : List Value} {e : TypeId} (ho : w1.ownsRow B 133 6 (.slice (some ⟨g,0,none⟩) (b + 1) cap) (b + 1) (ys ++ PEntry.zero.cells))
  (hg : (wr.alloc (.cells c.toArray e)).grownBy w1 ev.ownBlock) : At w1 m [nv,ev] 128 /\
  MemGrows B w (w1.setCell ⟨m,1,none⟩ (.slice (some ⟨g,0,none⟩) (b + 1) cap)) m nv (.slice (some ⟨g,0,none⟩) (b + 1) cap) a (b + 1) xs (ys ++ PEntry.zero.cells):=by
 have hA : At w1 m [nv,ev] 128:=(h.hd.alloc _).grown hg (h.hd.ne_row (ownsRow_base h.ents) (by decide));have he : w1.ownsRow B 131 10 nv a xs:=(h.nodes.alloc _).kept hg (ownsRow_ne (ownsRow_base h.nodes) (ownsRow_base h.ents) (by decide));refine ⟨hA,hA.set 1 _,?_,?_,?_,h.base,h.hm⟩
 ·exact ownsRow_setOtherB he (hA.ne_row (ownsRow_base he) (by decide)) _
 ·exact ownsRow_setOtherB ho (hA.ne_row (ownsRow_base ho) (by decide)) _
 ·refine Fr.setNew (by rw [h.base]; exact h.hm) ((h.fr.alloc _).grown hg ?_) _ _;intro k hk; right; rw [h.base]; exact (h.ents.lt k hk).1
end
theorem MNew_calls (w : World) (nn en : Nat) (hn : nn<=64) (he : en<=256) (he1 : 1<=en) :
  Calls Tryz.prog 59 #[.int .i64 nn,.int .i64 en] w fun e w'=>∃ l : MLay,e = .returned (.pointer (some ⟨l.m,0,none⟩)) /\
   MAt w' l (freshMem nn en)/\Fr (fun _=>False) w w'/\w.heap.size<=l.m/\w.heap.size<=l.nb/\w.heap.size<=l.eb:=by
 obtain ⟨iN,hiN,hzN,hsN,hbN⟩:=info_parts Tryz.infoNode;obtain ⟨iE,hiE,hzE,hsE,hbE⟩:=info_parts Tryz.infoEntry;have G0 : MemGrows w.heap.size w (w.alloc (.cells [.slice none 0 0,.slice none 0 0].toArray 128)) w.heap.size (.slice none 0 0) (.slice none 0 0) 0 0 [] [] :=
  ⟨At.newAt rfl _ _,World.ownsRow_nil _ _ _ _,World.ownsRow_nil _ _ _ _,(Fr.refl _ _).alloc _,rfl,Nat.le_refl _⟩
 have HG0:=(mkH (MemGrows _ _ _ _ _ _ _ _ _ _) <|G0);clear G0
 go_enter Tryz.func59,Tryz.ntmps59
 go_wp2_with (at_builtin; refine wpList_push _ rfl _ _ 125 rfl w.heap.size 131 iN (.agg PNode.zero.cells.toArray) 10 72 Tryz.underlying125 hiN hzN hsN hbN rfl (by decide) _ 0 [] rfl (World.ownsRow_nil _ _ _ _) (w.heap.size + 1) anchorNode.cells rfl rfl 131 (At.newAt (by simp) _ _) (PNode.cells_one _) (by decide) (by decide) (by simp; omega) ?_);intro g cap w1 hown hg hge;have R:=HG0.out.pushN (c:=anchorNode.cells) (x:=anchorNode.cells) (e:=131) (by simpa using hown) hg;obtain ⟨hA,hG⟩:=R;have hc:=hA.cell;have hz:=hA.frozen;have HG1:=(mkH (MemGrows _ _ _ _ _ _ _ _ _ _) <|hG);have hsz:=HG1.out.fr.size;rw [World.size_setCell] at hsz;clear hA hown hg hG HG0;go_wp2_with (at_builtin; refine wpList_push _ rfl _ _ 125 rfl w.heap.size 131 iN (.agg PNode.zero.cells.toArray) 10 72 Tryz.underlying125 hiN hzN hsN hbN rfl (by decide) _ (0 + 1) ([] ++ anchorNode.cells) rfl (ownsRow_alloc HG1.out.nodes _) w1.heap.size endNode.cells rfl rfl 131 (At.newAt (by simp) _ _) (PNode.cells_one _) (by decide) (by decide) (by simp; omega) ?_);intro g2 cap2 w2 hown hg hge2;have R:=HG1.out.pushN (c:=endNode.cells) (x:=endNode.cells) (e:=131) (by simpa using hown) hg;obtain ⟨hA,hG⟩:=R;have hc:=hA.cell;have hz:=hA.frozen;have HG2 : Hid (MemGrows w.heap.size w (w2.setCell ⟨w.heap.size,0,none⟩ (.slice (some ⟨g2,0,none⟩) (0 + 1 + 1) cap2)) w.heap.size (.slice (some ⟨g2,0,none⟩) (0 + 2) cap2) (.slice none 0 0) (0 + 2) 0 ((freshNodes 0).flatMap PNode.cells) []):=by
  have e : (freshNodes 0).flatMap PNode.cells = ([] ++ anchorNode.cells) ++ endNode.cells:=by simp [freshNodes]
  rw [e]; exact hG
 clear hA hown hg hG HG1 hsz;go_wp2_with fail;clear hc hz
 go_loopw [6] (fun i wr=>∃ k g cap : Nat,k<=nn/\i = .int .i64 k/\Hid (MemGrows w.heap.size w wr w.heap.size (.slice (some ⟨g,0,none⟩) (k + 2) cap) (.slice none 0 0) (k + 2) 0 ((freshNodes k).flatMap PNode.cells) [])) (fun i _=>nn - (intOf i).toNat)
 case atStart=>exact ⟨0,g2,cap2,Nat.zero_le _,rfl,HG2⟩
 case round =>
  obtain ⟨k,g,cap,hk,rfl,HG⟩:=hrel;have hc:=HG.out.hd.cell;have hz:=HG.out.hd.frozen;have hsz:=HG.out.fr.size;have hlt:=HG.out.hd.lt;by_cases hkn : k < nn
  ·go_wp2_with (at_builtin; refine wpList_push _ rfl _ _ 125 rfl w.heap.size 131 iN (.agg PNode.zero.cells.toArray) 10 72 Tryz.underlying125 hiN hzN hsN hbN rfl (by decide) _ (k + 2) _ rfl (ownsRow_alloc HG.out.nodes _) wr.heap.size PNode.zero.cells rfl rfl 131 (At.newAt (by simp) _ _) (PNode.cells_one _) (by unfold maxLen; omega) (by omega) (by simp; omega) ?_);intro g' cap' w' hown hg hge';have R:=HG.out.pushN (c:=PNode.zero.cells) (x:=PNode.zero.cells) (e:=131) hown hg;obtain ⟨hA,hG⟩:=R;have hc:=hA.cell;have hz:=hA.frozen;rw [<- freshNodes_succ,show k + 2 + 1 = k + 1 + 2 by omega] at hG;have HG':=(mkH (MemGrows _ _ _ _ _ _ _ _ _ _) <|hG);clear hA hown hg hG HG hsz hlt;go_wp2
   go_roundw
   case rel=>exact ⟨k + 1,g',cap',by omega,by go_num,HG'⟩
   case measure=>simp [intOf]; omega
  ·have hkn' : k = nn:=by omega
   subst hkn';clear hlt hsz;go_wp2_with fail;clear hc hz
   go_loopw [7] (fun i wr=>∃ (j : Nat) (ev : Value),j<=en/\i = .int .i64 j/\Hid (MemGrows w.heap.size w wr w.heap.size (.slice (some ⟨g,0,none⟩) (k + 2) cap) ev (k + 2) j ((freshNodes k).flatMap PNode.cells) ((List.replicate j PEntry.zero).flatMap PEntry.cells))) (fun i _=>en - (intOf i).toNat)
   case atStart=>exact ⟨0,_,Nat.zero_le _,rfl,HG⟩
   case round =>
    obtain ⟨j,ev,hj,rfl,HG⟩:=hrel;have hc:=HG.out.hd.cell;have hz:=HG.out.hd.frozen;have hsz:=HG.out.fr.size;have hlt:=HG.out.hd.lt;by_cases hjn : j < en
    ·go_wp2_with (at_builtin; refine wpList_push _ rfl _ _ 126 rfl w.heap.size 133 iE (.agg PEntry.zero.cells.toArray) 6 40 Tryz.underlying126 hiE hzE hsE hbE rfl (by decide) _ j _ rfl (ownsRow_alloc HG.out.ents _) wr.heap.size PEntry.zero.cells rfl rfl 133 (At.newAt (by simp) _ _) (PEntry.cells_one _) (by unfold maxLen; omega) (by omega) (by simp; omega) ?_);intro g' cap' w' hown hg hge';have R:=HG.out.pushE (c:=PEntry.zero.cells) (e:=133) hown hg;obtain ⟨hA,hG⟩:=R;have hc:=hA.cell;have hz:=hA.frozen;rw [<- freshEnts_succ] at hG;have HG':=(mkH (MemGrows _ _ _ _ _ _ _ _ _ _) <|hG);clear hA hown hg hG HG hsz hlt;go_wp2
     go_roundw
     case rel=>exact ⟨j + 1,_,by omega,by go_num,HG'⟩
     case measure=>simp [intOf]; omega
    ·have hjn' : j = en:=by omega
     subst hjn';obtain ⟨eb,ecap,rfl,_⟩:=ownsRow_shape (ownsRow_base HG.out.ents) (by omega);have hM : MemAt wr w.heap.size g cap eb ecap (freshNodes k) (List.replicate j PEntry.zero):=by
      have l1 : (freshNodes k).length = k + 2:=by simp [freshNodes]
      refine ⟨?_,?_,?_,by omega,by simpa using he⟩
      ·rw [l1,List.length_replicate]; exact HG.out.hd
      ·rw [l1]; exact ownsRow_base HG.out.nodes
      ·rw [List.length_replicate]; exact ownsRow_base HG.out.ents
     have hfr:=HG.out.fr;have hgb:=(HG.out.nodes.lt g rfl).1;have heb:=(HG.out.ents.lt eb rfl).1;have HM : Hid (MemAt wr w.heap.size g cap eb ecap (freshNodes k) (List.replicate j PEntry.zero)):=hM;have HF : Hid (Fr (fun _=>False) w wr):=hfr;clear hM hfr HG hc hz hsz hlt;go_wp2_with fail;refine (AddLink_calls (l:=⟨w.heap.size,g,cap,eb,ecap⟩) (M:=⟨freshNodes k,List.replicate j PEntry.zero⟩) HM.out 0 1).mono ?_;rintro e w5 ⟨rfl,hM5,hF5⟩;have HM5:=(mkH (MAt w5 ⟨w.heap.size,g,cap,eb,ecap⟩ _) <|hM5);have HF5:=(mkH (MFr _ wr w5) <|hF5);clear hM5 hF5;go_wp2_with fail;refine (StampNew_calls HM5.out 0 0).mono ?_;rintro e w6 ⟨rfl,hM6,hF6⟩;have HM6:=(mkH (MAt w6 ⟨w.heap.size,g,cap,eb,ecap⟩ _) <|hM6);have HF6:=(mkH (MFr _ w5 w6) <|hF6);clear hM6 hF6;go_wp2;go_ret;refine ⟨⟨w.heap.size,g,cap,eb,ecap⟩,rfl,HM6.out,?_,Nat.le_refl _,hgb,heb⟩;exact Fr.transNew (Fr.transNew HF.out HF5.out (by rintro k (rfl | rfl); exact .inr hgb; exact .inr heb)) HF6.out (by rintro k (rfl | rfl); exact .inr hgb; exact .inr heb)
end
end Go.Proofs.YtfccelbmacjifabGreat
