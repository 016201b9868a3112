import Derived.Test.YtfccelbmacjifabGreatP0
import Derived.Test.YtfccelbmacjifabGreatRows
import Derived.WalkSpells
import Derived.Deep.QuietTactic
import Derived.BigQuiet
import Derived.BigRegion
set_option linter.unusedSimpArgs false
set_option maxRecDepth 100000
set_option maxHeartbeats 4000000
namespace Go.Proofs.YtfccelbmacjifabGreat
section
open Go.RowKit
def PNode.cells (n : PNode) : List Value :=
 [.int .i64 n.key,.int .i64 n.value,.bool n.dead,.bool n.retired,.int .i64 n.retiredAt,.bool n.used,.int .i64 n.holder,.int .i64 n.links,.int .i64 (n.leads false),.int .i64 (n.leads true)]
theorem PNode.cells_len (n : PNode) : n.cells.length = 10:=rfl
theorem PNode.cells_one (n : PNode) : ∀ u ∈ n.cells,u.oneCell' = true:=by
 intro u hu; simp only [PNode.cells,List.mem_cons,List.not_mem_nil,or_false] at hu;rcases hu with rfl | rfl | rfl | rfl | rfl | rfl | rfl | rfl | rfl | rfl <;> rfl
def PEntry.cells (e : PEntry) : List Value:=[.bool e.used,.bool e.pending,.int .i64 e.src,.int .i64 (b2i e.side),.int .i64 e.dst,.int .i64 e.stamp]
theorem PEntry.cells_len (e : PEntry) : e.cells.length = 6:=rfl
theorem PEntry.cells_one (n : PEntry) : ∀ u ∈ n.cells,u.oneCell' = true:=by
 intro u hu; simp only [PEntry.cells,List.mem_cons,List.not_mem_nil,or_false] at hu;rcases hu with rfl | rfl | rfl | rfl | rfl | rfl <;> rfl
structure MemAt (w : World) (m nb ncap eb ecap : Nat) (ns : List PNode) (es : List PEntry) : Prop where
 hd : At w m [.slice (some ⟨nb,0,none⟩) ns.length ncap,.slice (some ⟨eb,0,none⟩) es.length ecap] 128
 nodes : w.ownsRow 0 131 10 (.slice (some ⟨nb,0,none⟩) ns.length ncap) ns.length (ns.flatMap PNode.cells)
 ents : w.ownsRow 0 133 6 (.slice (some ⟨eb,0,none⟩) es.length ecap) es.length (es.flatMap PEntry.cells)
 nsmall : ns.length<=66
 esmall : es.length<=256
section
variable {w : World} {m nb ncap eb ecap : Nat} {ns : List PNode} {es : List PEntry}
theorem MemAt.node (h : MemAt w m nb ncap eb ecap ns es) {i : Nat} {x : PNode} (hx : ns[i]? = some x) {j : Nat} {u : Value} (hu : x.cells[j]? = some u) : w.cell? ⟨nb,i * 10 + j,none⟩ = some u:=by
 have hj : j < 10:=by have:=(List.getElem?_eq_some_iff.1 hu).1; simpa [PNode.cells_len] using this
 exact ownsRow_cell h.nodes ((tab_get PNode.cells 10 PNode.cells_len ns i j x hx hj).trans hu)
theorem MemAt.ent (h : MemAt w m nb ncap eb ecap ns es) {i : Nat} {x : PEntry} (hx : es[i]? = some x) {j : Nat} {u : Value} (hu : x.cells[j]? = some u) : w.cell? ⟨eb,i * 6 + j,none⟩ = some u:=by
 have hj : j < 6:=by have:=(List.getElem?_eq_some_iff.1 hu).1; simpa [PEntry.cells_len] using this
 exact ownsRow_cell h.ents ((tab_get PEntry.cells 6 PEntry.cells_len es i j x hx hj).trans hu)
theorem MemAt.apart (h : MemAt w m nb ncap eb ecap ns es) : m≠nb/\m≠eb/\nb≠eb:=by
 have h1:=h.hd.ne_row h.nodes (by decide);have h2:=h.hd.ne_row h.ents (by decide);have h3:=ownsRow_ne h.nodes h.ents (by decide);simp [Value.ownBlock] at h1 h2 h3;exact ⟨fun e=>h1 e.symm,fun e=>h2 e.symm,h3⟩
theorem MemAt.drew (h : MemAt w m nb ncap eb ecap ns es) : MemAt w.drew m nb ncap eb ecap ns es:=⟨h.hd,h.nodes,h.ents,h.nsmall,h.esmall⟩
theorem MemAt.fr {S : Nat->Prop} {w' : World} (h : MemAt w m nb ncap eb ecap ns es) (hf : Fr S w w') (hm : ¬ S m) (hn : ¬ S nb) (he : ¬ S eb) : MemAt w' m nb ncap eb ecap ns es :=
 ⟨hf.at h.hd hm,hf.owns h.nodes (fun k hk=>by simp [Value.ownBlock] at hk; subst hk; exact hn),hf.owns h.ents (fun k hk=>by simp [Value.ownBlock] at hk; subst hk; exact he),h.nsmall,h.esmall⟩
theorem MemAt.setEnt (h : MemAt w m nb ncap eb ecap ns es) {i : Nat} {x : PEntry} (hx : es[i]? = some x) (j : Nat) (y : PEntry) (u : Value) (hj : j < 6) (hs : x.cells.set j u = y.cells) :
  MemAt (w.setCell ⟨eb,i * 6 + j,none⟩ u) m nb ncap eb ecap ns (es.set i y):=by
 obtain ⟨h1,h2,h3⟩:=h.apart;have hl : (es.set i y).length = es.length:=by simp
 refine ⟨by rw [hl]; exact h.hd.setOther _ h2 _,ownsRow_setOther h.nodes (by simpa [Value.ownBlock] using h3) _,?_,h.nsmall,by rw [hl]; exact h.esmall⟩;rw [hl,<- tab_set PEntry.cells 6 PEntry.cells_len es i j x y u hx hj hs];exact ownsRow_set h.ents _ _
theorem MemAt.setNode (h : MemAt w m nb ncap eb ecap ns es) {i : Nat} {x : PNode} (hx : ns[i]? = some x) (j : Nat) (y : PNode) (u : Value) (hj : j < 10) (hs : x.cells.set j u = y.cells) :
  MemAt (w.setCell ⟨nb,i * 10 + j,none⟩ u) m nb ncap eb ecap (ns.set i y) es:=by
 obtain ⟨h1,h2,h3⟩:=h.apart;have hl : (ns.set i y).length = ns.length:=by simp
 refine ⟨by rw [hl]; exact h.hd.setOther _ h1 _,?_,ownsRow_setOther h.ents (by simpa [Value.ownBlock] using h3.symm) _,by rw [hl]; exact h.nsmall,h.esmall⟩;rw [hl,<- tab_set PNode.cells 10 PNode.cells_len ns i j x y u hx hj hs];exact ownsRow_set h.nodes _ _
theorem get_set_same {α : Type} {l : List α} {i : Nat} {x y : α} (hx : l[i]? = some x) : (l.set i y)[i]? = some y:=by
 have:=(List.getElem?_eq_some_iff.1 hx).1
 simp [this]
theorem MemAt.putEnt (h : MemAt w m nb ncap eb ecap ns es) {i : Nat} {x : PEntry} (hx : es[i]? = some x) (y : PEntry) :
  MemAt ((((((w.setCell ⟨eb,i * 6,none⟩ (.bool y.used)).setCell ⟨eb,i * 6 + 1,none⟩ (.bool y.pending)).setCell ⟨eb,i * 6 + 2,none⟩ (.int .i64 y.src)).setCell ⟨eb,i * 6 + 3,none⟩ (.int .i64 (b2i y.side))).setCell
   ⟨eb,i * 6 + 4,none⟩ (.int .i64 y.dst)).setCell ⟨eb,i * 6 + 5,none⟩ (.int .i64 y.stamp)) m nb ncap eb ecap ns (es.set i y):=by
 have a0:=h.setEnt hx 0 { x with used:=y.used } (.bool y.used) (by decide) rfl;have a1:=a0.setEnt (get_set_same hx) 1 { x with used:=y.used,pending:=y.pending } (.bool y.pending) (by decide) rfl;have a2:=a1.setEnt (get_set_same (get_set_same hx)) 2 { y with side:=x.side,dst:=x.dst,stamp:=x.stamp } (.int .i64 y.src) (by decide) rfl;have a3:=a2.setEnt (get_set_same (get_set_same (get_set_same hx))) 3 { y with dst:=x.dst,stamp:=x.stamp } (.int .i64 (b2i y.side)) (by decide) rfl;have a4:=a3.setEnt (get_set_same (get_set_same (get_set_same (get_set_same hx)))) 4 { y with stamp:=x.stamp } (.int .i64 y.dst) (by decide) rfl;have a5:=a4.setEnt (get_set_same (get_set_same (get_set_same (get_set_same (get_set_same hx))))) 5 y (.int .i64 y.stamp) (by decide) rfl;simpa [List.set_set] using a5
theorem MemAt.putNode (h : MemAt w m nb ncap eb ecap ns es) {i : Nat} {x : PNode} (hx : ns[i]? = some x) (y : PNode) :
  MemAt ((((((((((w.setCell ⟨nb,i * 10,none⟩ (.int .i64 y.key)).setCell ⟨nb,i * 10 + 1,none⟩ (.int .i64 y.value)).setCell ⟨nb,i * 10 + 2,none⟩ (.bool y.dead)).setCell ⟨nb,i * 10 + 3,none⟩ (.bool y.retired)).setCell
   ⟨nb,i * 10 + 4,none⟩ (.int .i64 y.retiredAt)).setCell ⟨nb,i * 10 + 5,none⟩ (.bool y.used)).setCell ⟨nb,i * 10 + 6,none⟩ (.int .i64 y.holder)).setCell ⟨nb,i * 10 + 7,none⟩ (.int .i64 y.links)).setCell
   ⟨nb,i * 10 + 8,none⟩ (.int .i64 (y.leads false))).setCell ⟨nb,i * 10 + 9,none⟩ (.int .i64 (y.leads true))) m nb ncap eb ecap (ns.set i y) es:=by
 have a0:=h.setNode hx 0 { x with key:=y.key } (.int .i64 y.key) (by decide) rfl;have g0:=get_set_same (y:={ x with key:=y.key }) hx;have a1:=a0.setNode g0 1 { x with key:=y.key,value:=y.value } (.int .i64 y.value) (by decide) rfl;have g1:=get_set_same (y:={ x with key:=y.key,value:=y.value }) g0;have a2:=a1.setNode g1 2 { x with key:=y.key,value:=y.value,dead:=y.dead } (.bool y.dead) (by decide) rfl;have g2:=get_set_same (y:={ x with key:=y.key,value:=y.value,dead:=y.dead }) g1;have a3:=a2.setNode g2 3 { x with key:=y.key,value:=y.value,dead:=y.dead,retired:=y.retired } (.bool y.retired) (by decide) rfl;have g3:=get_set_same (y:={ x with key:=y.key,value:=y.value,dead:=y.dead,retired:=y.retired }) g2;have a4:=a3.setNode g3 4 { x with key:=y.key,value:=y.value,dead:=y.dead,retired:=y.retired,retiredAt:=y.retiredAt } (.int .i64 y.retiredAt) (by decide) rfl;have g4:=get_set_same (y:={ x with key:=y.key,value:=y.value,dead:=y.dead,retired:=y.retired,retiredAt:=y.retiredAt }) g3;have a5:=a4.setNode g4 5 { y with holder:=x.holder,links:=x.links,leads:=x.leads } (.bool y.used) (by decide) rfl;have g5:=get_set_same (y:={ y with holder:=x.holder,links:=x.links,leads:=x.leads }) g4;have a6:=a5.setNode g5 6 { y with links:=x.links,leads:=x.leads } (.int .i64 y.holder) (by decide) rfl;have g6:=get_set_same (y:={ y with links:=x.links,leads:=x.leads }) g5;have a7:=a6.setNode g6 7 { y with leads:=x.leads } (.int .i64 y.links) (by decide) rfl;have g7:=get_set_same (y:={ y with leads:=x.leads }) g6;have a8:=a7.setNode g7 8 { y with leads:=upd x.leads false (y.leads false) } (.int .i64 (y.leads false)) (by decide) rfl;have g8:=get_set_same (y:={ y with leads:=upd x.leads false (y.leads false) }) g7;have a9:=a8.setNode g8 9 y (.int .i64 (y.leads true)) (by decide) rfl;simpa [List.set_set] using a9
end
end
section
open Go.RowKit
structure MLay where
 m : Nat
 nb : Nat
 ncap : Nat
 eb : Nat
 ecap : Nat
abbrev MAt (w : World) (l : MLay) (M : PMem) : Prop:=MemAt w l.m l.nb l.ncap l.eb l.ecap M.ns M.es
def lnk (n : Int) (s : Bool) : Value:=.agg #[.int .i64 n,.int .i64 (b2i s)]
section
variable {w : World} {l : MLay} {M : PMem}
theorem MAt.same {S : Nat->Prop} {w' : World} (h : MAt w l M) (hf : Fr S w w') (hm : ¬ S l.m) (hn : ¬ S l.nb) (he : ¬ S l.eb) : MAt w' l M:=MemAt.fr h hf hm hn he
theorem MAt.same0 {w' : World} (h : MAt w l M) (hf : Fr (fun _=>False) w w') : MAt w' l M:=MemAt.fr h hf (fun h=>h) (fun h=>h) (fun h=>h)
theorem freeEntry_calls (h : MAt w l M) :
  Calls Tryz.prog 84 #[.pointer (some ⟨l.m,0,none⟩)] w fun e w'=>e = .returned (.int .i64 M.freeEntry)/\w' = w:=by
 have hc:=h.hd.cell;have hs:=h.esmall;have H : Hid (MAt w l M):=h;clear h;unfold PMem.freeEntry
 go_enter Tryz.func84,Tryz.ntmps84
 go_wp2
 go_loop [3,9] (fun _ i=>∃ k : Nat,k<=M.es.length/\i = .int .i64 k/\Hid (∀ j,j < k->∀ x,M.es[j]? = some x->(!x.used) = false)) (fun _ i=>M.es.length - (intOf i).toNat)
 case atStart=>exact ⟨0,Nat.zero_le _,rfl,fun j hj=>by omega⟩
 case round =>
  obtain ⟨k,hk,rfl,hall⟩:=hrel;by_cases hlt : k < M.es.length
  ·have hx : Hid (M.es[k]? = some M.es[k]):=List.getElem?_eq_getElem hlt;generalize M.es[k] = x at hx;have c0:=MemAt.ent H.out hx.out (j:=0) (u:=.bool x.used) rfl;rw [Nat.add_zero] at c0;by_cases hu : (!x.used) = true
   ·have hf : Hid (find (fun x=>!x.used) M.es 0 = k):=find_hit _ M.es k x hx.out hall.out hu;go_wp2;go_ret;exact ⟨ret_int hf.out.symm,rfl⟩
   ·have hu' : (!x.used) = false:=by simpa using hu
    have hnext : Hid (∀ j,j < k + 1->∀ x,M.es[j]? = some x->(!x.used) = false):=by
     intro j hj y hy;by_cases e : j = k
     ·subst e; rw [hx.out] at hy; obtain rfl:=Option.some.inj hy; exact hu'
     ·exact hall.out j (by omega) y hy
    go_wp2
    go_round
    case rel=>exact ⟨k + 1,by omega,by go_num,hnext⟩
    case measure=>simp [intOf]; omega
  ·have hf : Hid (find (fun x=>!x.used) M.es 0 = -1):=find_miss _ M.es (fun j hj y hy=>hall.out j (by omega) y hy);go_wp2;go_ret;exact ⟨ret_int hf.out.symm,rfl⟩
theorem hasEntry_calls (h : MAt w l M) (i : Int) :
  Calls Tryz.prog 104 #[.pointer (some ⟨l.m,0,none⟩),.int .i64 i] w fun e w'=>e = .returned (.bool (M.hasEntry i))/\w' = w:=by
 have hc:=h.hd.cell;have hs:=h.esmall;clear h;unfold PMem.hasEntry;by_cases h1 : 0<=i
 ·by_cases h2 : i < M.es.length
  ·go_enter Tryz.func104,Tryz.ntmps104
   go_wp2;go_ret;exact ⟨ret_bool (isIn_true (by omega)).symm,rfl⟩
  ·go_enter Tryz.func104,Tryz.ntmps104
   go_wp2;go_ret;exact ⟨ret_bool (isIn_false (by omega)).symm,rfl⟩
 ·go_enter Tryz.func104,Tryz.ntmps104
  go_wp2;go_ret;exact ⟨ret_bool (isIn_false (by omega)).symm,rfl⟩
theorem hasNode_calls (h : MAt w l M) (i : Int) :
  Calls Tryz.prog 83 #[.pointer (some ⟨l.m,0,none⟩),.int .i64 i] w fun e w'=>e = .returned (.bool (M.hasNode i))/\w' = w:=by
 have hc:=h.hd.cell;have hs:=h.nsmall;clear h;unfold PMem.hasNode;by_cases h1 : 0<=i
 ·by_cases h2 : i < M.ns.length
  ·go_enter Tryz.func83,Tryz.ntmps83
   go_wp2;go_ret;exact ⟨ret_bool (isIn_true (by omega)).symm,rfl⟩
  ·go_enter Tryz.func83,Tryz.ntmps83
   go_wp2;go_ret;exact ⟨ret_bool (isIn_false (by omega)).symm,rfl⟩
 ·go_enter Tryz.func83,Tryz.ntmps83
  go_wp2;go_ret;exact ⟨ret_bool (isIn_false (by omega)).symm,rfl⟩
structure Boxed (w0 w : World) (l : MLay) (M : PMem) (b : Nat) (n : Int) (s : Bool) : Prop where
 mem : MAt w l M
 box : At w b [.int .i64 n,.int .i64 (b2i s)] 113
 fr : Fr (fun _=>False) w0 w
theorem Boxed.new (h : MAt w l M) (n : Int) (s : Bool) : Boxed w (w.alloc (.cells #[.int .i64 n,.int .i64 (b2i s)] 113)) l M w.heap.size n s :=
 ⟨MAt.same0 h ((Fr.refl _ _).alloc _),At.new w _ _,(Fr.refl _ _).alloc _⟩
theorem Boxed.drewN {w0 : World} {b : Nat} {n : Int} {s : Bool} (h : Boxed w0 w l M b n s) (q : Nat) : Boxed w0 (w.drewN q) l M b n s:=by
 have hf : Fr (fun _=>False) w (w.drewN q):=(Fr.refl _ _).drewN q;exact ⟨MAt.same0 h.mem hf,hf.at h.box (fun h=>h),h.fr.trans hf⟩
theorem Boxed.step {w0 w' : World} {b : Nat} {n : Int} {s : Bool} (h : Boxed w0 w l M b n s) (hf : Fr (fun _=>False) w w') : Boxed w0 w' l M b n s :=
 ⟨MAt.same0 h.mem hf,hf.at h.box (fun h=>h),h.fr.trans hf⟩
def MFr (l : MLay) (w w' : World) : Prop:=Fr (fun k=>k = l.nb\/k = l.eb) w w'
theorem MFr.of0 {w' : World} (h : Fr (fun _=>False) w w') : MFr l w w':=Fr.mono h (fun _ _ h=>h.elim)
theorem MFr.trans {a b c : World} (h : MFr l a b) (k : MFr l b c) : MFr l a c:=Fr.trans h k
theorem pending_calls (h : MAt w l M) (n : Int) (s : Bool) :
  Calls Tryz.prog 106 #[.pointer (some ⟨l.m,0,none⟩),lnk n s] w fun e w'=>e = .returned (.int .i64 (M.pending n s))/\Fr (fun _=>False) w w':=by
 have hs:=h.esmall;have HB:=(mkH (Boxed _ _ _ _ _ _ _) <|Boxed.new h n s);have hc:=HB.out.mem.hd.cell;clear h;unfold PMem.pending lnk
 go_enter Tryz.func106,Tryz.ntmps106
 go_wp2;clear hc
 go_loopw [5,11] (fun _ i wr=>∃ k : Nat,k<=M.es.length/\i = .int .i64 k/\Hid (∀ j,j < k->∀ x,M.es[j]? = some x->isPd n s x = false)/\Hid (Boxed w wr l M w.heap.size n s)) (fun _ i _=>M.es.length - (intOf i).toNat)
 case atStart=>exact ⟨0,Nat.zero_le _,rfl,fun j hj=>by omega,HB⟩
 case round =>
  clear HB;obtain ⟨k,hk,rfl,hall,HB⟩:=hrel;have hc:=HB.out.mem.hd.cell;have hb:=HB.out.box.cell;by_cases hlt : k < M.es.length
  ·have hx : Hid (M.es[k]? = some M.es[k]):=List.getElem?_eq_getElem hlt;generalize M.es[k] = x at hx;have c0:=MemAt.ent HB.out.mem hx.out (j:=1) (u:=.bool x.pending) rfl;have c1:=MemAt.ent HB.out.mem hx.out (j:=2) (u:=.int .i64 x.src) rfl;have c2:=MemAt.ent HB.out.mem hx.out (j:=3) (u:=.int .i64 (b2i x.side)) rfl;have hnext : Hid (isPd n s x = false->∀ j,j < k + 1->∀ x,M.es[j]? = some x->isPd n s x = false):=by
    intro hu' j hj y hy;by_cases e : j = k
    ·subst e; rw [hx.out] at hy; obtain rfl:=Option.some.inj hy; exact hu'
    ·exact hall.out j (by omega) y hy
   have hf : Hid (isPd n s x = true->find (isPd n s) M.es 0 = k):=find_hit _ M.es k x hx.out hall.out;cases hp : x.pending
   ·rw [hp] at c0;go_wp2_with fail
    go_quiet (fail)
    go_wp2
    go_roundw
    case rel=>exact ⟨k + 1,by omega,by go_num,hnext.out (by simp [isPd,hp]),HB.out.drewN _⟩
    case measure=>simp [intOf]; omega
   ·rw [hp] at c0;cases hq : (x.src == n)
    ·cases hr : (b2i x.side == b2i s)
     ·go_wp2_with fail
      go_quiet (fail)
      go_wp2
      go_roundw
      case rel=>exact ⟨k + 1,by omega,by go_num,hnext.out (by simp [isPd,hp,hq]),HB.out.drewN _⟩
      case measure=>simp [intOf]; omega
     ·go_wp2_with fail
      go_quiet (fail)
      go_wp2
      go_roundw
      case rel=>exact ⟨k + 1,by omega,by go_num,hnext.out (by simp [isPd,hp,hq]),HB.out.drewN _⟩
      case measure=>simp [intOf]; omega
    ·cases hr : (b2i x.side == b2i s)
     ·go_wp2_with fail
      go_quiet (fail)
      go_wp2
      go_roundw
      case rel=>exact ⟨k + 1,by omega,by go_num,hnext.out (by rw [b2i_beq] at hr; simp [isPd,hp,hq,hr]),HB.out.drewN _⟩
      case measure=>simp [intOf]; omega
     ·go_wp2_with fail
      go_quiet (fail)
      go_wp2;go_ret;exact ⟨ret_int (hf.out (by rw [b2i_beq] at hr; simp [isPd,hp,hq,hr])).symm,(HB.out.drewN _).fr⟩
  ·have hf : Hid (find (isPd n s) M.es 0 = -1):=find_miss _ M.es (fun j hj y hy=>hall.out j (by omega) y hy);go_wp2;go_ret;exact ⟨ret_int hf.out.symm,HB.out.fr⟩
end
end
section
open Go.RowKit
section
variable {w : World} {l : MLay} {M : PMem}
theorem hasLink_calls (h : MAt w l M) (n : Int) (s : Bool) :
  Calls Tryz.prog 105 #[.pointer (some ⟨l.m,0,none⟩),lnk n s] w fun e w'=>e = .returned (.bool (M.hasLink n s))/\Fr (fun _=>False) w w':=by
 have hs:=h.nsmall;have HB:=(mkH (Boxed _ _ _ _ _ _ _) <|Boxed.new h n s);have hc:=HB.out.mem.hd.cell;have hb:=HB.out.box.cell;clear h;unfold lnk;cases hn : M.hasNode n
 ·have hE : Hid (M.hasLink n s = false):=by show _ = _; simp [PMem.hasLink,hn]
  cases s
  all_goals
   simp only [b2i_true,b2i_false] at hb ⊢
   go_enter Tryz.func105,Tryz.ntmps105
   go_wp2_with fail;refine (hasNode_calls HB.out.mem n).mono ?_;rintro e w' ⟨rfl,rfl⟩;rw [hn];go_wp2;go_ret;exact ⟨ret_bool hE.out.symm,HB.out.fr⟩
 ·obtain ⟨h0,h1⟩:=isIn_iff.1 hn;obtain ⟨k,rfl⟩:=Int.eq_ofNat_of_zero_le h0;have hlt : k < M.ns.length:=by omega
  have hx : Hid (M.ns[k]? = some M.ns[k]):=List.getElem?_eq_getElem hlt;generalize M.ns[k] = x at hx;have c0:=MemAt.node HB.out.mem hx.out (j:=7) (u:=.int .i64 x.links) rfl;have hE : Hid (M.hasLink k s = decide (b2i s < x.links)):=by show _ = _; simp [PMem.hasLink,hn,PMem.node,hx.out]
  have hn' : Hid (M.hasNode (k : Int) = true):=hn;clear hn;by_cases hlk : b2i s < x.links
  ·rw [decide_eq_true hlk] at hE;cases s
   all_goals
    simp only [b2i_true,b2i_false] at hb hc c0 hlk HB ⊢
    go_enter Tryz.func105,Tryz.ntmps105
    go_wp2_with fail;refine (hasNode_calls HB.out.mem k).mono ?_;rintro e w' ⟨rfl,rfl⟩;rw [hn'.out];go_wp2_with fail
    go_quiet (fail)
    go_wp2;go_ret;exact ⟨ret_bool (by first | exact hE.out.symm | (rw [hE.out]; exact decide_eq_true (by omega))),(HB.out.drewN _).fr⟩
  ·rw [decide_eq_false hlk] at hE;cases s
   all_goals
    simp only [b2i_true,b2i_false] at hb hc c0 hlk HB ⊢
    go_enter Tryz.func105,Tryz.ntmps105
    go_wp2_with fail;refine (hasNode_calls HB.out.mem k).mono ?_;rintro e w' ⟨rfl,rfl⟩;rw [hn'.out];go_wp2_with fail
    go_quiet (fail)
    go_wp2;go_ret;exact ⟨ret_bool (by first | exact hE.out.symm | (rw [hE.out]; exact decide_eq_false (by omega))),(HB.out.drewN _).fr⟩
theorem Pend_calls (h : MAt w l M) (n : Int) (s : Bool) (to : Int) :
  Calls Tryz.prog 85 #[.pointer (some ⟨l.m,0,none⟩),lnk n s,.int .i64 to] w fun e w'=>e = .returned (.tuple #[])/\MAt w' l (M.pend n s to)/\MFr l w w':=by
 have hs:=h.esmall;have HB:=(mkH (Boxed _ _ _ _ _ _ _) <|Boxed.new h n s);have hc:=HB.out.mem.hd.cell;have hb:=HB.out.box.cell;clear h;unfold lnk
 go_enter Tryz.func85,Tryz.ntmps85
 go_wp2_with fail;refine (freeEntry_calls HB.out.mem).mono ?_;rintro e w' ⟨rfl,rfl⟩;go_wp2_with fail;refine (hasEntry_calls HB.out.mem _).mono ?_;rintro e w' ⟨rfl,rfl⟩;cases he : M.hasEntry M.freeEntry
 ·have hE : Hid (M.pend n s to = M):=by show _ = _; simp [PMem.pend,he]
  go_wp2;refine bodyPost_ret (results_none rfl _ _ _) rfl ?_;exact ⟨rfl,by rw [hE.out]; exact HB.out.mem,.of0 HB.out.fr⟩
 ·go_wp2_with fail;refine (hasLink_calls HB.out.mem n s).mono ?_;rintro e w1 ⟨rfl,hF⟩;have HB1:=(mkH (Boxed _ _ _ _ _ _ _) <|HB.out.step hF);clear hF HB hc hb;cases hl : M.hasLink n s
  ·have hE : Hid (M.pend n s to = M):=by show _ = _; simp [PMem.pend,he,hl]
   go_wp2;refine bodyPost_ret (results_none rfl _ _ _) rfl ?_;exact ⟨rfl,by rw [hE.out]; exact HB1.out.mem,.of0 HB1.out.fr⟩
  ·have hE : Hid (M.pend n s to = M.setE M.freeEntry ⟨true,true,n,s,to,0⟩):=by show _ = _; simp [PMem.pend,he,hl]
   obtain ⟨h0,h1⟩:=isIn_iff.1 he;obtain ⟨k,hk⟩:=Int.eq_ofNat_of_zero_le h0;rw [hk] at hE ⊢;have hlt : k < M.es.length:=by omega
   have hx : Hid (M.es[k]? = some M.es[k]):=List.getElem?_eq_getElem hlt;generalize M.es[k] = x at hx;have hc:=HB1.out.mem.hd.cell;have hb:=HB1.out.box.cell;have c0:=MemAt.ent HB1.out.mem hx.out (j:=0) (u:=.bool x.used) rfl;have c1:=MemAt.ent HB1.out.mem hx.out (j:=1) (u:=.bool x.pending) rfl;have c2:=MemAt.ent HB1.out.mem hx.out (j:=2) (u:=.int .i64 x.src) rfl;have c3:=MemAt.ent HB1.out.mem hx.out (j:=3) (u:=.int .i64 (b2i x.side)) rfl;have c4:=MemAt.ent HB1.out.mem hx.out (j:=4) (u:=.int .i64 x.dst) rfl;have c5:=MemAt.ent HB1.out.mem hx.out (j:=5) (u:=.int .i64 x.stamp) rfl;have hf:=ownsRow_frozen HB1.out.mem.ents;rw [Nat.add_zero] at c0;clear he h0 h1 hk;go_wp2_with fail;go_region;go_wp2
   go_end0
   rw [hE.out];refine ⟨rfl,?_,(MFr.of0 HB1.out.fr).trans ?_⟩
   ·exact MemAt.drew (MemAt.putEnt HB1.out.mem hx.out ⟨true,true,n,s,to,0⟩)
   ·unfold MFr
    repeat (with_reducible first | refine Fr.setIn (.inr rfl) ?_ _ _ | refine Fr.drewN ?_ _ | refine Fr.drew ?_ | exact Fr.refl _ _)
theorem Stamp_calls (h : MAt w l M) (n : Int) (s : Bool) (st : Int) :
  Calls Tryz.prog 86 #[.pointer (some ⟨l.m,0,none⟩),lnk n s,.int .i64 st] w fun e w'=>e = .returned (.tuple #[])/\MAt w' l (M.stamp n s st)/\MFr l w w':=by
 have hs:=h.esmall;have ap:=h.apart;have HB:=(mkH (Boxed _ _ _ _ _ _ _) <|Boxed.new h n s);have hc:=HB.out.mem.hd.cell;have hb:=HB.out.box.cell;obtain ⟨ap1,ap2,ap3⟩:=ap;have ap2':=ap2.symm;clear h;unfold lnk
 go_enter Tryz.func86,Tryz.ntmps86
 go_wp2_with fail;refine (pending_calls HB.out.mem n s).mono ?_;rintro e w1 ⟨rfl,hF⟩;have HB1:=(mkH (Boxed _ _ _ _ _ _ _) <|HB.out.step hF);clear hF HB hc hb;have hc:=HB1.out.mem.hd.cell;have hb:=HB1.out.box.cell;go_wp2_with fail;refine (hasEntry_calls HB1.out.mem _).mono ?_;rintro e w' ⟨rfl,rfl⟩;cases he : M.hasEntry (M.pending n s)
 ·have hE : Hid (M.stamp n s st = M):=by show _ = _; simp [PMem.stamp,he]
  go_wp2;refine bodyPost_ret (results_none rfl _ _ _) rfl ?_;exact ⟨rfl,by rw [hE.out]; exact HB1.out.mem,.of0 HB1.out.fr⟩
 ·have hE : Hid (M.stamp n s st = M.setE (M.pending n s) { M.ent (M.pending n s) with pending:=false,stamp:=st }):=by show _ = _; simp [PMem.stamp,he]
  obtain ⟨h0,h1⟩:=isIn_iff.1 he;obtain ⟨k,hk⟩:=Int.eq_ofNat_of_zero_le h0;rw [hk] at hE ⊢;have hlt : k < M.es.length:=by omega
  have hx : Hid (M.es[k]? = some M.es[k]):=List.getElem?_eq_getElem hlt;generalize M.es[k] = x at hx;have hE' : Hid (M.stamp n s st = { M with es:=M.es.set k { x with pending:=false,stamp:=st } }):=by show _ = _; rw [hE.out]; simp [PMem.setE,PMem.ent,hx.out]
  have c1:=MemAt.ent HB1.out.mem hx.out (j:=1) (u:=.bool x.pending) rfl;have c5:=MemAt.ent HB1.out.mem hx.out (j:=5) (u:=.int .i64 x.stamp) rfl;have hf:=ownsRow_frozen HB1.out.mem.ents;clear he h0 h1 hk hE;go_wp2
  go_end0
  rw [hE'.out];refine ⟨rfl,?_,(MFr.of0 HB1.out.fr).trans ?_⟩
  ·have a1:=MemAt.setEnt HB1.out.mem hx.out 1 { x with pending:=false } (.bool false) (by decide) rfl;have a2:=a1.setEnt (get_set_same hx.out) 5 { x with pending:=false,stamp:=st } (.int .i64 st) (by decide) rfl;rw [List.set_set] at a2;exact a2
  ·unfold MFr
   repeat (with_reducible first | refine Fr.setIn (.inr rfl) ?_ _ _ | refine Fr.drewN ?_ _ | refine Fr.drew ?_ | exact Fr.refl _ _)
theorem StampNew_calls (h : MAt w l M) (n st : Int) :
  Calls Tryz.prog 71 #[.pointer (some ⟨l.m,0,none⟩),.int .i64 n,.int .i64 st] w fun e w'=>e = .returned (.tuple #[])/\MAt w' l (M.stampNew n st)/\MFr l w w':=by
 have H:=(mkH (MAt w l M) <|h);clear h
 go_enter Tryz.func71,Tryz.ntmps71
 go_wp2_with fail
 go_loopw [6] (fun i wr=>(i = .int .i64 0/\Hid (wr = w))\/(i = .int .i64 1/\Hid (MAt wr l (M.stamp n false st))/\Hid (MFr l w wr))\/(i = .int .i64 2/\Hid (MAt wr l (M.stampNew n st))/\Hid (MFr l w wr))) (fun i _=>2 - (intOf i).toNat)
 case atStart=>exact .inl ⟨rfl,rfl⟩
 case round =>
  rcases hrel with ⟨rfl,hw⟩ | ⟨rfl,H1,F1⟩ | ⟨rfl,H2,F2⟩
  ·have hw':=hw.out;subst hw';clear hw;go_wp2_with fail;refine (Stamp_calls H.out n false st).mono ?_;rintro e w1 ⟨rfl,h1,h2⟩;have H1:=(mkH (MAt _ _ _) <|h1);have F1:=(mkH (MFr _ _ _) <|h2);clear h1 h2;go_wp2
   go_roundw
   case rel=>exact .inr (.inl ⟨by go_num,H1,F1⟩)
   case measure=>simp [intOf]
  ·go_wp2_with fail;refine (Stamp_calls H1.out n true st).mono ?_;rintro e w1 ⟨rfl,h1,h2⟩;have H2:=(mkH (MAt _ _ _) <|h1);have F2:=(mkH (MFr _ _ _) <|F1.out.trans h2);clear h1 h2;go_wp2
   go_roundw
   case rel=>exact .inr (.inr ⟨by go_num,H2,F2⟩)
   case measure=>simp [intOf]
  ·go_wp2
   go_end0
   exact ⟨rfl,H2.out,F2.out⟩
theorem MAt.nodeSet {w' : World} {k : Nat} {x : PNode} (hx : M.ns[k]? = some x) (y : PNode) (h : MemAt w' l.m l.nb l.ncap l.eb l.ecap (M.ns.set k y) M.es) (g : PNode->PNode) (hg : g x = y) : MAt w' l (M.modN k g):=by
 have e : M.modN k g = { M with ns:=M.ns.set k y }:=by
  unfold PMem.modN;have : M.hasNode (k : Int) = true:=by
   have:=(List.getElem?_eq_some_iff.1 hx).1
   exact isIn_true (by omega)
  rw [this];simp only [if_pos,Int.toNat_natCast]
  congr 1
  apply List.ext_getElem?;intro j;rw [List.getElem?_modify,List.getElem?_set];by_cases hj : k = j
  ·subst hj;obtain ⟨h1,h2⟩:=List.getElem?_eq_some_iff.1 hx;simp [h1,h2,hg]
  ·simp [hj]
 rw [e]; exact h
theorem AddLink_calls (h : MAt w l M) (n to : Int) :
  Calls Tryz.prog 70 #[.pointer (some ⟨l.m,0,none⟩),.int .i64 n,.int .i64 to] w fun e w'=>e = .returned (.tuple #[])/\MAt w' l (M.addLink n to)/\MFr l w w':=by
 have hs:=h.nsmall;have hc:=h.hd.cell;obtain ⟨ap1,ap2,ap3⟩:=h.apart;have ap1':=ap1.symm;have H:=(mkH (MAt w l M) <|h);clear h
 go_enter Tryz.func70,Tryz.ntmps70
 go_wp2_with fail;refine (hasNode_calls H.out n).mono ?_;rintro e w' ⟨rfl,rfl⟩;cases hn : M.hasNode n
 ·have hE : Hid (M.addLink n to = M):=by show _ = _; simp [PMem.addLink,hn]
  go_wp2;refine bodyPost_ret (results_none rfl _ _ _) rfl ?_;exact ⟨rfl,by rw [hE.out]; exact H.out,.of0 (Fr.refl _ _)⟩
 ·go_wp2_with fail;refine (freeEntry_calls H.out).mono ?_;rintro e w' ⟨rfl,rfl⟩;cases hfe : (M.freeEntry == -1)
  ·obtain ⟨h0,h1⟩:=isIn_iff.1 hn;obtain ⟨k,rfl⟩:=Int.eq_ofNat_of_zero_le h0;have hlt : k < M.ns.length:=by omega
   have hx : Hid (M.ns[k]? = some M.ns[k]):=List.getElem?_eq_getElem hlt;generalize M.ns[k] = x at hx;have c7:=MemAt.node H.out hx.out (j:=7) (u:=.int .i64 x.links) rfl;have c8:=MemAt.node H.out hx.out (j:=8) (u:=.int .i64 (x.leads false)) rfl;have c9:=MemAt.node H.out hx.out (j:=9) (u:=.int .i64 (x.leads true)) rfl;have hf:=ownsRow_frozen H.out.nodes;have hnode : Hid (M.node k = x):=by show _ = _; simp [PMem.node,hn,hx.out]
   have hn':=(mkH (M.hasNode (k : Int) = true) <|hn);clear hn h0 h1
   match hlk : x.links with
   | 0 =>
    have hE : Hid (M.addLink k to = (M.modN k (linked false to)).pend k false to):=by
     show _ = _;have : (M.freeEntry != -1) = true:=by simp [bne,hfe]
     simp [PMem.addLink,hn'.out,this,hnode.out,hlk]
    rw [hlk] at c7;go_wp2_with fail;have a1:=MemAt.setNode H.out hx.out 7 { x with links:=1 } (.int .i64 1) (by decide) rfl;have a2:=a1.setNode (get_set_same hx.out) 8 { x with links:=1,leads:=upd x.leads false to } (.int .i64 to) (by decide) rfl;rw [List.set_set] at a2;have a3:=MAt.nodeSet hx.out _ a2 (linked false to) (by simp [linked,hlk]);refine (Pend_calls a3 k false to).mono ?_;rintro e w1 ⟨rfl,h1,h2⟩;have H1:=(mkH (MAt _ _ _) <|h1);have F1:=(mkH (MFr _ _ _) <|h2);clear h1 h2 a1 a2 a3;go_wp2
    go_end0
    refine ⟨rfl,by rw [hE.out]; exact H1.out,Fr.trans ?_ F1.out⟩
    repeat (with_reducible first | refine Fr.setIn (.inl rfl) ?_ _ _ | refine Fr.drewN ?_ _ | refine Fr.drew ?_ | exact Fr.refl _ _)
   | 1 =>
    have hE : Hid (M.addLink k to = (M.modN k (linked true to)).pend k true to):=by
     show _ = _;have : (M.freeEntry != -1) = true:=by simp [bne,hfe]
     simp [PMem.addLink,hn'.out,this,hnode.out,hlk]
    rw [hlk] at c7;go_wp2_with fail;have a1:=MemAt.setNode H.out hx.out 7 { x with links:=2 } (.int .i64 2) (by decide) rfl;have a2:=a1.setNode (get_set_same hx.out) 9 { x with links:=2,leads:=upd x.leads true to } (.int .i64 to) (by decide) rfl;rw [List.set_set] at a2;have a3:=MAt.nodeSet hx.out _ a2 (linked true to) (by simp [linked,hlk]);refine (Pend_calls a3 k true to).mono ?_;rintro e w1 ⟨rfl,h1,h2⟩;have H1:=(mkH (MAt _ _ _) <|h1);have F1:=(mkH (MFr _ _ _) <|h2);clear h1 h2 a1 a2 a3;go_wp2
    go_end0
    refine ⟨rfl,by rw [hE.out]; exact H1.out,Fr.trans ?_ F1.out⟩
    repeat (with_reducible first | refine Fr.setIn (.inl rfl) ?_ _ _ | refine Fr.drewN ?_ _ | refine Fr.drew ?_ | exact Fr.refl _ _)
   | q + 2 =>
    have hE : Hid (M.addLink k to = M):=by show _ = _; simp [PMem.addLink,hnode.out,hlk]
    rw [hlk] at c7;have hq : Hid (((q : Int) + 2 < 0) = False):=by show _ = _; simp; omega
    go_wp2;refine bodyPost_ret (results_none rfl _ _ _) rfl ?_;exact ⟨rfl,by rw [hE.out]; exact H.out,.of0 (Fr.refl _ _)⟩
  ·have hE : Hid (M.addLink n to = M):=by show _ = _; simp [PMem.addLink,bne,hfe]
   go_wp2;refine bodyPost_ret (results_none rfl _ _ _) rfl ?_;exact ⟨rfl,by rw [hE.out]; exact H.out,.of0 (Fr.refl _ _)⟩
end
end
section
open Go.RowKit
section
variable {w : World} {l : MLay} {M : PMem}
theorem freeNode_calls (h : MAt w l M) :
  Calls Tryz.prog 141 #[.pointer (some ⟨l.m,0,none⟩)] w fun e w'=>e = .returned (.int .i64 M.freeNode)/\w' = w:=by
 have hc:=h.hd.cell;have hs:=h.nsmall;have H : Hid (MAt w l M):=h;clear h;unfold PMem.freeNode
 go_enter Tryz.func141,Tryz.ntmps141
 go_wp2
 go_loop [3,9] (fun _ i=>∃ k : Nat,k<=M.ns.length/\i = .int .i64 k/\Hid (∀ j,j < k->∀ x,M.ns[j]? = some x->(!x.used) = false)) (fun _ i=>M.ns.length - (intOf i).toNat)
 case atStart=>exact ⟨0,Nat.zero_le _,rfl,fun j hj=>by omega⟩
 case round =>
  obtain ⟨k,hk,rfl,hall⟩:=hrel;by_cases hlt : k < M.ns.length
  ·have hx : Hid (M.ns[k]? = some M.ns[k]):=List.getElem?_eq_getElem hlt;generalize M.ns[k] = x at hx;have c0:=MemAt.node H.out hx.out (j:=5) (u:=.bool x.used) rfl;by_cases hu : (!x.used) = true
   ·have hf : Hid (find (fun x=>!x.used) M.ns 0 = k):=find_hit _ M.ns k x hx.out hall.out hu;go_wp2;go_ret;exact ⟨ret_int hf.out.symm,rfl⟩
   ·have hu' : (!x.used) = false:=by simpa using hu
    have hnext : Hid (∀ j,j < k + 1->∀ x,M.ns[j]? = some x->(!x.used) = false):=by
     intro j hj y hy;by_cases e : j = k
     ·subst e; rw [hx.out] at hy; obtain rfl:=Option.some.inj hy; exact hu'
     ·exact hall.out j (by omega) y hy
    go_wp2
    go_round
    case rel=>exact ⟨k + 1,by omega,by go_num,hnext⟩
    case measure=>simp [intOf]; omega
  ·have hf : Hid (find (fun x=>!x.used) M.ns 0 = -1):=find_miss _ M.ns (fun j hj y hy=>hall.out j (by omega) y hy);go_wp2;go_ret;exact ⟨ret_int hf.out.symm,rfl⟩
theorem hasNode_get {n : Int} (h : M.hasNode n = true) : ∃ (k : Nat) (x : PNode),n = k/\k < M.ns.length/\M.ns[k]? = some x/\M.node n = x:=by
 obtain ⟨h0,h1⟩:=isIn_iff.1 h;obtain ⟨k,rfl⟩:=Int.eq_ofNat_of_zero_le h0;have hlt : k < M.ns.length:=by omega
 refine ⟨k,M.ns[k],rfl,hlt,List.getElem?_eq_getElem hlt,?_⟩;unfold PMem.node; rw [h]; simp [hlt]
theorem node_no {n : Int} (h : M.hasNode n = false) : M.node n = PNode.zero:=by unfold PMem.node; rw [h]; simp
theorem Make_calls (h : MAt w l M) (key value : Int) :
  Calls Tryz.prog 136 #[.pointer (some ⟨l.m,0,none⟩),.int .i64 key,.int .i64 value] w fun e w'=>e = .returned (.int .i64 (M.make key value).2)/\MAt w' l (M.make key value).1/\MFr l w w':=by
 have hs:=h.nsmall;have hc:=h.hd.cell;have H:=(mkH (MAt w l M) <|h);clear h
 go_enter Tryz.func136,Tryz.ntmps136
 go_wp2_with fail;refine (freeNode_calls H.out).mono ?_;rintro e w' ⟨rfl,rfl⟩;go_wp2_with fail;refine (hasNode_calls H.out _).mono ?_;rintro e w' ⟨rfl,rfl⟩;cases he : M.hasNode M.freeNode
 ·have hE : Hid (M.make key value = (M,-1)):=by show _ = _; simp [PMem.make,he]
  go_wp2;go_ret;rw [hE.out];exact ⟨rfl,H.out,.of0 (Fr.refl _ _)⟩
 ·have hE : Hid (M.make key value = ({ M with ns:=M.ns.set M.freeNode.toNat (PNode.made key value) },M.freeNode)):=by show _ = _; simp [PMem.make,he]
  obtain ⟨k,x,hk,hlt,hx,_⟩:=hasNode_get he;rw [hk] at hE ⊢;have HX:=(mkH (M.ns[k]? = some x) <|hx);have c0:=MemAt.node H.out HX.out (j:=0) (u:=.int .i64 x.key) rfl;have c1:=MemAt.node H.out HX.out (j:=1) (u:=.int .i64 x.value) rfl;have c2:=MemAt.node H.out HX.out (j:=2) (u:=.bool x.dead) rfl;have c3:=MemAt.node H.out HX.out (j:=3) (u:=.bool x.retired) rfl;have c4:=MemAt.node H.out HX.out (j:=4) (u:=.int .i64 x.retiredAt) rfl;have c5:=MemAt.node H.out HX.out (j:=5) (u:=.bool x.used) rfl;have c6:=MemAt.node H.out HX.out (j:=6) (u:=.int .i64 x.holder) rfl;have c7:=MemAt.node H.out HX.out (j:=7) (u:=.int .i64 x.links) rfl;have c8:=MemAt.node H.out HX.out (j:=8) (u:=.int .i64 (x.leads false)) rfl;have c9:=MemAt.node H.out HX.out (j:=9) (u:=.int .i64 (x.leads true)) rfl;have hf:=ownsRow_frozen H.out.nodes;rw [Nat.add_zero] at c0;clear he hk hx;go_wp2;go_ret;rw [hE.out];refine ⟨rfl,?_,?_⟩
  ·exact MemAt.putNode H.out HX.out (PNode.made key value)
  ·unfold MFr
   repeat (with_reducible first | refine Fr.setIn (.inl rfl) ?_ _ _ | refine Fr.drewN ?_ _ | refine Fr.drew ?_ | exact Fr.refl _ _)
theorem Lock_calls (h : MAt w l M) (n t : Int) :
  Calls Tryz.prog 119 #[.pointer (some ⟨l.m,0,none⟩),.int .i64 n,.int .i64 t] w fun e w'=>e = .returned (.bool (M.lock n t).2)/\MAt w' l (M.lock n t).1/\MFr l w w':=by
 have hs:=h.nsmall;have hc:=h.hd.cell;have H:=(mkH (MAt w l M) <|h);clear h
 go_enter Tryz.func119,Tryz.ntmps119
 go_wp2_with fail;refine (hasNode_calls H.out _).mono ?_;rintro e w' ⟨rfl,rfl⟩;cases hn : M.hasNode n
 ·have hE : Hid (M.lock n t = (M,false)):=by show _ = _; simp [PMem.lock,hn]
  go_wp2;go_ret;rw [hE.out];exact ⟨rfl,H.out,.of0 (Fr.refl _ _)⟩
 ·obtain ⟨k,x,rfl,hlt,hx,hnode⟩:=hasNode_get hn;have HX:=(mkH (M.ns[k]? = some x) <|hx);have c6:=MemAt.node H.out HX.out (j:=6) (u:=.int .i64 x.holder) rfl;have hf:=ownsRow_frozen H.out.nodes;have hy : Hid (M.lock k t = (M.modN k fun x=>{ x with holder:=t },true)->MAt (w'.setCell ⟨l.nb,k * 10 + 6,none⟩ (.int .i64 t)) l (M.lock k t).1):=by
   intro e; rw [e];exact MAt.nodeSet hx _ (MemAt.setNode H.out hx 6 { x with holder:=t } (.int .i64 t) (by decide) rfl) _ rfl
  cases h1 : (x.holder != -1)
  ·have hE : Hid (M.lock k t = (M.modN k fun x=>{ x with holder:=t },true)):=by show _ = _; simp [PMem.lock,hn,hnode,h1]
   clear hn hnode hx;go_wp2;go_ret;refine ⟨ret_bool (by rw [hE.out]),hy.out hE.out,?_⟩;unfold MFr
   repeat (with_reducible first | refine Fr.setIn (.inl rfl) ?_ _ _ | refine Fr.drewN ?_ _ | refine Fr.drew ?_ | exact Fr.refl _ _)
  ·cases h2 : (x.holder != t)
   ·have hE : Hid (M.lock k t = (M.modN k fun x=>{ x with holder:=t },true)):=by show _ = _; simp [PMem.lock,hn,hnode,h1,h2]
    clear hn hnode hx;go_wp2;go_ret;refine ⟨ret_bool (by rw [hE.out]),hy.out hE.out,?_⟩;unfold MFr
    repeat (with_reducible first | refine Fr.setIn (.inl rfl) ?_ _ _ | refine Fr.drewN ?_ _ | refine Fr.drew ?_ | exact Fr.refl _ _)
   ·have hE : Hid (M.lock k t = (M,false)):=by show _ = _; simp [PMem.lock,hn,hnode,h1,h2]
    clear hn hnode hx;go_wp2;go_ret;rw [hE.out];exact ⟨rfl,H.out,.of0 (Fr.refl _ _)⟩
theorem Kill_calls (h : MAt w l M) (n : Int) :
  Calls Tryz.prog 129 #[.pointer (some ⟨l.m,0,none⟩),.int .i64 n] w fun e w'=>e = .returned (.tuple #[])/\MAt w' l (M.kill n)/\MFr l w w':=by
 have hs:=h.nsmall;have hc:=h.hd.cell;have H:=(mkH (MAt w l M) <|h);clear h
 go_enter Tryz.func129,Tryz.ntmps129
 go_wp2_with fail;refine (hasNode_calls H.out _).mono ?_;rintro e w' ⟨rfl,rfl⟩;cases hn : M.hasNode n
 ·have hE : Hid (M.kill n = M):=by show _ = _; simp [PMem.kill,PMem.modN,hn]
  go_wp2
  go_end0
  rw [hE.out];exact ⟨rfl,H.out,.of0 (Fr.refl _ _)⟩
 ·obtain ⟨k,x,rfl,hlt,hx,_⟩:=hasNode_get hn;have HX:=(mkH (M.ns[k]? = some x) <|hx);have c2:=MemAt.node H.out HX.out (j:=2) (u:=.bool x.dead) rfl;have hf:=ownsRow_frozen H.out.nodes;clear hn hx;go_wp2
  go_end0
  refine ⟨rfl,MAt.nodeSet HX.out _ (MemAt.setNode H.out HX.out 2 { x with dead:=true } (.bool true) (by decide) rfl) _ rfl,?_⟩;unfold MFr
  repeat (with_reducible first | refine Fr.setIn (.inl rfl) ?_ _ _ | refine Fr.drewN ?_ _ | refine Fr.drew ?_ | exact Fr.refl _ _)
theorem Retire_calls (h : MAt w l M) (n t : Int) :
  Calls Tryz.prog 130 #[.pointer (some ⟨l.m,0,none⟩),.int .i64 n,.int .i64 t] w fun e w'=>e = .returned (.tuple #[])/\MAt w' l (M.retire n t)/\MFr l w w':=by
 have hs:=h.nsmall;have hc:=h.hd.cell;obtain ⟨ap1,ap2,ap3⟩:=h.apart;have ap1':=ap1.symm;have H:=(mkH (MAt w l M) <|h);clear h
 go_enter Tryz.func130,Tryz.ntmps130
 go_wp2_with fail;refine (hasNode_calls H.out _).mono ?_;rintro e w' ⟨rfl,rfl⟩;cases hn : M.hasNode n
 ·have hE : Hid (M.retire n t = M):=by show _ = _; simp [PMem.retire,PMem.modN,hn]
  go_wp2
  go_end0
  rw [hE.out];exact ⟨rfl,H.out,.of0 (Fr.refl _ _)⟩
 ·obtain ⟨k,x,rfl,hlt,hx,_⟩:=hasNode_get hn;have HX:=(mkH (M.ns[k]? = some x) <|hx);have c3:=MemAt.node H.out HX.out (j:=3) (u:=.bool x.retired) rfl;have c4:=MemAt.node H.out HX.out (j:=4) (u:=.int .i64 x.retiredAt) rfl;have hf:=ownsRow_frozen H.out.nodes;clear hn hx;go_wp2
  go_end0
  have a1:=MemAt.setNode H.out HX.out 3 { x with retired:=true } (.bool true) (by decide) rfl;have a2:=a1.setNode (get_set_same HX.out) 4 { x with retired:=true,retiredAt:=t } (.int .i64 t) (by decide) rfl;rw [List.set_set] at a2;refine ⟨rfl,MAt.nodeSet HX.out _ a2 _ rfl,?_⟩;unfold MFr
  repeat (with_reducible first | refine Fr.setIn (.inl rfl) ?_ _ _ | refine Fr.drewN ?_ _ | refine Fr.drew ?_ | exact Fr.refl _ _)
end
end
section
open Go.RowKit
section
variable {w : World} {l : MLay} {M : PMem}
def nodeVal (x : PNode) : Value:=.agg #[.int .i64 x.key,.int .i64 x.value,.bool x.dead,.bool x.retired,.int .i64 x.retiredAt,.bool x.used,.int .i64 x.holder,.int .i64 x.links,.int .i64 (x.leads false),.int .i64 (x.leads true)]
theorem Node_size (h : MAt w l M) (n : Int) :
  Calls Tryz.prog 89 #[.pointer (some ⟨l.m,0,none⟩),.int .i64 n] w fun e w'=>e = .returned (nodeVal (M.node n))/\Fr (fun _=>False) w w'/\w'.heap.size = w.heap.size + 1:=by
 have hs:=h.nsmall;have hm:=h.hd.lt;have hnb:=ownsRow_lt0 h.nodes;have H:=(mkH (MAt w l M) <|h);have hF : Fr (fun _=>False) w (w.alloc (.cells PNode.zero.cells.toArray 131)):=(Fr.refl _ _).alloc _;have H1:=(mkH (MAt _ l M) <|MAt.same0 h hF);have hA:=At.new w PNode.zero.cells 131;have hz:=hA.frozen;have hac:=hA.cell;have hc:=H1.out.hd.cell;have HF:=(mkH (Fr _ _ _) <|hF);clear h hF hA;simp only [PNode.zero,PNode.cells,Int.natCast_zero] at hz hac hc H1 HF
 go_enter Tryz.func89,Tryz.ntmps89
 go_wp2_with fail;refine (hasNode_calls H1.out n).mono ?_;rintro e w' ⟨rfl,rfl⟩;cases hn : M.hasNode n
 ·have hE : Hid (M.node n = PNode.zero):=node_no hn;go_wp2;refine bodyPost_ret (v:=nodeVal PNode.zero) (by simp [results,Tryz.results89,go_sem,nodeVal,PNode.zero]) rfl ?_;rw [hE.out];refine ⟨rfl,?_,by simp⟩
  repeat (with_reducible first | refine Fr.alloc ?_ _ | exact Fr.refl _ _)
 ·obtain ⟨k,x,rfl,hlt,hx,hE⟩:=hasNode_get hn;have HE:=(mkH (M.node k = x) <|hE);have c0:=MemAt.node H1.out hx (j:=0) (u:=.int .i64 x.key) rfl;have c1:=MemAt.node H1.out hx (j:=1) (u:=.int .i64 x.value) rfl;have c2:=MemAt.node H1.out hx (j:=2) (u:=.bool x.dead) rfl;have c3:=MemAt.node H1.out hx (j:=3) (u:=.bool x.retired) rfl;have c4:=MemAt.node H1.out hx (j:=4) (u:=.int .i64 x.retiredAt) rfl;have c5:=MemAt.node H1.out hx (j:=5) (u:=.bool x.used) rfl;have c6:=MemAt.node H1.out hx (j:=6) (u:=.int .i64 x.holder) rfl;have c7:=MemAt.node H1.out hx (j:=7) (u:=.int .i64 x.links) rfl;have c8:=MemAt.node H1.out hx (j:=8) (u:=.int .i64 (x.leads false)) rfl;have c9:=MemAt.node H1.out hx (j:=9) (u:=.int .i64 (x.leads true)) rfl;rw [Nat.add_zero] at c0;clear hx hE hn;go_wp2;refine bodyPost_ret (v:=nodeVal x) (by simp [results,Tryz.results89,go_sem,nodeVal]) rfl ?_;rw [HE.out];refine ⟨rfl,?_,by simp⟩
  repeat (with_reducible first | refine Fr.alloc ?_ _ | exact Fr.refl _ _)
theorem Node_calls (h : MAt w l M) (n : Int) :
  Calls Tryz.prog 89 #[.pointer (some ⟨l.m,0,none⟩),.int .i64 n] w fun e w'=>e = .returned (nodeVal (M.node n))/\Fr (fun _=>False) w w' :=
 (Node_size h n).mono fun _ _ h=>⟨h.1,h.2.1⟩
theorem IsInner_size (x : PNode) (w : World) :
  Calls Tryz.prog 114 #[nodeVal x] w fun e w'=>e = .returned (.bool (x.links == 2))/\Fr (fun _=>False) w w'/\w'.heap.size = w.heap.size + 1:=by
 have hA:=At.new w x.cells 131;have hac:=hA.cell;clear hA;simp only [PNode.cells] at hac;have hE : Hid (((x.links : Int) == 2) = (x.links == 2)):=by
  show _ = _;cases h : (x.links == 2)
  ·rw [beq_eq_false_iff_ne] at h ⊢; omega
  ·rw [beq_iff_eq] at h ⊢; omega
 unfold nodeVal;cases hq : ((x.links : Int) == 2)
 all_goals
  go_enter Tryz.func114,Tryz.ntmps114
  go_wp2;go_ret;exact ⟨ret_bool (by rw [<- hE.out]; first | rfl | exact hq.symm | exact hq),(Fr.refl _ _).alloc _,by simp⟩
theorem IsInner_calls (x : PNode) (w : World) :
  Calls Tryz.prog 114 #[nodeVal x] w fun e w'=>e = .returned (.bool (x.links == 2))/\Fr (fun _=>False) w w' :=
 (IsInner_size x w).mono fun _ _ h=>⟨h.1,h.2.1⟩
theorem field_key (x : PNode) : ∀ w : World,(Instr.field 131 (nodeVal x) 0).run Tryz.prog w = .ok (.int .i64 x.key) w:=fun _=>by kernel_rfl
theorem field_value (x : PNode) : ∀ w : World,(Instr.field 131 (nodeVal x) 1).run Tryz.prog w = .ok (.int .i64 x.value) w:=fun _=>by kernel_rfl
theorem field_dead (x : PNode) : ∀ w : World,(Instr.field 131 (nodeVal x) 2).run Tryz.prog w = .ok (.bool x.dead) w:=fun _=>by kernel_rfl
theorem field_retiredAt (x : PNode) : ∀ w : World,(Instr.field 131 (nodeVal x) 4).run Tryz.prog w = .ok (.int .i64 x.retiredAt) w:=fun _=>by kernel_rfl
end
end
end Go.Proofs.YtfccelbmacjifabGreat
