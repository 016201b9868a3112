import Derived.Below
import Derived.WalkKit
import Derived.Deep.QuietTactic
import Derived.BigQuiet
set_option linter.unusedSimpArgs false
set_option maxRecDepth 100000
set_option maxHeartbeats 4000000
namespace Go.Proofs.YtfccelbmacjifabGreat
section
open Go.RowKit
def At (w : World) (b : Nat) (c : List Value) (e : TypeId) : Prop:=w.heap[b]? = some (.cells c.toArray e (0,0))
theorem At.cell {w : World} {b : Nat} {c : List Value} {e : TypeId} (h : At w b c e) : ∀ o,w.cell? ⟨b,o,none⟩ = c[o]?:=by
 intro o; unfold At at h; simp [World.cell?,h]
theorem At.frozen {w : World} {b : Nat} {c : List Value} {e : TypeId} (h : At w b c e) : ∀ o,w.frozen? ⟨b,o,none⟩ = false:=by
 intro o; unfold At at h; simp [World.frozen?,h]
theorem At.lt {w : World} {b : Nat} {c : List Value} {e : TypeId} (h : At w b c e) : b < w.heap.size:=by
 unfold At at h; exact (Array.getElem?_eq_some_iff.1 h).1
theorem At.drew {w : World} {b : Nat} {c : List Value} {e : TypeId} (h : At w b c e) : At w.drew b c e:=h
theorem At.alloc {w : World} {b : Nat} {c : List Value} {e : TypeId} (h : At w b c e) (o : Obj) : At (w.alloc o) b c e:=by
 have:=h.lt
 unfold At at *; rw [Below.heap_alloc w o b this]; exact h
theorem At.new (w : World) (c : List Value) (e : TypeId) : At (w.alloc (.cells c.toArray e)) w.heap.size c e:=heap_alloc_new w _
theorem At.set {w : World} {b : Nat} {c : List Value} {e : TypeId} (h : At w b c e) (o : Nat) (v : Value) : At (w.setCell ⟨b,o,none⟩ v) b (c.set o v) e:=by
 unfold At at *;rw [heap_setCell_same w b o _ e v h]
 simp
theorem At.setOther {w : World} {b : Nat} {c : List Value} {e : TypeId} (h : At w b c e) (a : Addr) (hne : b≠a.block) (v : Value) : At (w.setCell a v) b c e:=by
 unfold At at *; rw [heap_setCell_other w a b v hne]; exact h
theorem At.ne {w : World} {b b' : Nat} {c c' : List Value} {e e' : TypeId} (h : At w b c e) (h' : At w b' c' e') (hne : e≠e') : b≠b':=by
 rintro rfl; unfold At at *; rw [h] at h'; simp at h'; exact hne h'.2
structure Fr (S : Nat->Prop) (w w' : World) : Prop where
 os : w'.os = w.os
 tape : w'.tape = w.tape
 output : w'.output = w.output
 size : w.heap.size<=w'.heap.size
 block : ∀ k,k < w.heap.size->¬ S k->w'.heap[k]? = w.heap[k]?
theorem Fr.refl (S : Nat->Prop) (w : World) : Fr S w w:=⟨rfl,rfl,rfl,Nat.le_refl _,fun _ _ _=>rfl⟩
theorem Fr.trans {S : Nat->Prop} {a b c : World} (h : Fr S a b) (k : Fr S b c) : Fr S a c :=
 ⟨k.os.trans h.os,k.tape.trans h.tape,k.output.trans h.output,Nat.le_trans h.size k.size,fun i hi hS=>(k.block i (Nat.lt_of_lt_of_le hi h.size) hS).trans (h.block i hi hS)⟩
theorem Fr.mono {S S' : Nat->Prop} {w w' : World} (h : Fr S w w') (hS : ∀ k,k < w.heap.size->S k->S' k) : Fr S' w w' :=
 ⟨h.os,h.tape,h.output,h.size,fun k hk hn=>h.block k hk (fun hs=>hn (hS k hk hs))⟩
theorem Fr.drew {S : Nat->Prop} {a w : World} (h : Fr S a w) : Fr S a w.drew:=⟨h.os,h.tape,h.output,h.size,h.block⟩
theorem Fr.alloc {S : Nat->Prop} {a w : World} (h : Fr S a w) (o : Obj) : Fr S a (w.alloc o) :=
 h.trans ⟨rfl,rfl,rfl,by simp,fun k hk _=>Below.heap_alloc _ _ _ hk⟩
theorem Fr.setCell {S : Nat->Prop} {a w : World} (h : Fr S a w) {p : Addr} (hp : S p.block\/a.heap.size<=p.block) (u : Value) : Fr S a (w.setCell p u) :=
 ⟨h.os,h.tape,h.output,by simpa using h.size,fun k hk hS=>by
  rw [heap_setCell_other w p k u (by rintro rfl; rcases hp with hp | hp; exact hS hp; omega)];exact h.block k hk hS⟩
theorem Fr.transNew {S T : Nat->Prop} {a b c : World} (h : Fr S a b) (k : Fr T b c) (hn : ∀ i,T i->S i\/a.heap.size<=i) : Fr S a c :=
 ⟨k.os.trans h.os,k.tape.trans h.tape,k.output.trans h.output,Nat.le_trans h.size k.size,fun i hi hS=>(k.block i (Nat.lt_of_lt_of_le hi h.size) (by intro ht; rcases hn i ht with h1 | h1; exact hS h1; omega)).trans (h.block i hi hS)⟩
theorem Fr.set1 {b : Nat} {a w : World} (h : Fr (fun k=>k = b) a w) (o : Nat) (u : Value) : Fr (fun k=>k = b) a (w.setCell ⟨b,o,none⟩ u):=h.setCell (p:=⟨b,o,none⟩) (Or.inl rfl) u
theorem Fr.setIn {S : Nat->Prop} {b : Nat} {a w : World} (hb : S b) (h : Fr S a w) (o : Nat) (u : Value) : Fr S a (w.setCell ⟨b,o,none⟩ u):=h.setCell (p:=⟨b,o,none⟩) (Or.inl hb) u
theorem Fr.setNew {S : Nat->Prop} {b : Nat} {a w : World} (hb : a.heap.size<=b) (h : Fr S a w) (o : Nat) (u : Value) : Fr S a (w.setCell ⟨b,o,none⟩ u):=h.setCell (p:=⟨b,o,none⟩) (Or.inr hb) u
theorem Fr.grown {S : Nat->Prop} {a w w' : World} {row : Option Nat} (h : Fr S a w) (hg : w.grownBy w' row) (hr : ∀ k,row = some k->S k\/a.heap.size<=k) : Fr S a w' :=
 ⟨hg.os.trans h.os,hg.tape.trans h.tape,hg.output.trans h.output,Nat.le_trans h.size hg.size,fun k hk hS=>by
  rw [hg.block k (Nat.lt_of_lt_of_le hk h.size) (fun e=>by rcases hr k e.symm with h1 | h1; exact hS h1; omega)];exact h.block k hk hS⟩
theorem Fr.at {S : Nat->Prop} {w w' : World} (h : Fr S w w') {b : Nat} {c : List Value} {e : TypeId} (ha : At w b c e) (hS : ¬ S b) : At w' b c e:=by
 have:=ha.lt
 unfold At at *; rw [h.block b this hS]; exact ha
theorem Fr.owns {S : Nat->Prop} {w w' : World} (h : Fr S w w') {e : TypeId} {size : Nat} {v : Value} {n : Nat} {xs : List Value} (ho : w.ownsRow 0 e size v n xs)
  (hS : ∀ k,v.ownBlock = some k->¬ S k) : w'.ownsRow 0 e size v n xs:=by
 refine ⟨ho.1,?_⟩;rcases ho.2 with hn | ⟨g,cap,cur,rfl,hb,hgg,rest⟩
 ·exact .inl hn
 ·refine .inr ⟨g,cap,cur,rfl,hb,?_,rest⟩;rw [h.block g (Array.getElem?_eq_some_iff.1 hgg).1 (hS g rfl)];exact hgg
theorem Fr.below {w w' : World} {S : Nat->Prop} (h : Fr S w w') (hS : ∀ k,k < w.heap.size->¬ S k) : Below w.heap.size w w' :=
 ⟨h.os,h.tape,h.output,h.size,fun k hk=>h.block k hk (hS k hk)⟩
theorem At.ne_row {w : World} {b : Nat} {c : List Value} {e : TypeId} (h : At w b c e) {e' : TypeId} {size : Nat} {v : Value} {n : Nat} {xs : List Value}
  (ho : w.ownsRow 0 e' size v n xs) (hne : e≠e') : v.ownBlock≠some b:=by
 intro hv;rcases ho.2 with ⟨rfl,_⟩ | ⟨g,cap,cur,rfl,_,hg,_⟩
 ·simp [Value.ownBlock] at hv
 ·simp [Value.ownBlock] at hv; subst hv;unfold At at h; rw [h] at hg; simp at hg; exact hne hg.2
theorem ownsRow_ne {w : World} {e e' : TypeId} {size size' : Nat} {v v' : Value} {n n' : Nat} {xs xs' : List Value} (h : w.ownsRow 0 e size v n xs) (h' : w.ownsRow 0 e' size' v' n' xs') (hne : e≠e') :
  v.ownBlock = none\/v.ownBlock≠v'.ownBlock:=by
 rcases h.2 with ⟨rfl,_⟩ | ⟨g,cap,cur,rfl,_,hg,_⟩
 ·left; rfl
 ·right;rcases h'.2 with ⟨rfl,_⟩ | ⟨g',cap',cur',rfl,_,hg',_⟩
  ·simp [Value.ownBlock]
  ·simp only [Value.ownBlock]; intro e; obtain rfl:=Option.some.inj e; rw [hg] at hg'; simp at hg'; exact hne hg'.2
theorem ownsRow_setOther {w : World} {e : TypeId} {size : Nat} {v : Value} {n : Nat} {xs : List Value} (h : w.ownsRow 0 e size v n xs) {a : Addr} (hne : v.ownBlock≠some a.block) (u : Value) : (w.setCell a u).ownsRow 0 e size v n xs:=by
 obtain ⟨h1,h2⟩:=h;refine ⟨h1,?_⟩;rcases h2 with h2 | ⟨g,cap,cur,rfl,hg,hh,r⟩
 ·exact Or.inl h2
 ·exact Or.inr ⟨g,cap,cur,rfl,hg,by rw [heap_setCell_other _ _ _ _ (by intro e; apply hne; simp [Value.ownBlock,e])]; exact hh,r⟩
theorem ownsRow_setOtherB {w : World} {B : Nat} {e : TypeId} {size : Nat} {v : Value} {n : Nat} {xs : List Value} (h : w.ownsRow B e size v n xs) {a : Addr} (hne : v.ownBlock≠some a.block) (u : Value) : (w.setCell a u).ownsRow B e size v n xs:=by
 obtain ⟨h1,h2⟩:=h;refine ⟨h1,?_⟩;rcases h2 with h2 | ⟨g,cap,cur,rfl,hg,hh,r⟩
 ·exact Or.inl h2
 ·exact Or.inr ⟨g,cap,cur,rfl,hg,by rw [heap_setCell_other _ _ _ _ (by intro e; apply hne; simp [Value.ownBlock,e])]; exact hh,r⟩
theorem ownsRow_set {w : World} {e : TypeId} {size : Nat} {g n cap : Nat} {xs : List Value} (h : w.ownsRow 0 e size (.slice (some ⟨g,0,none⟩) n cap) n xs) (o : Nat) (u : Value) :
  (w.setCell ⟨g,o,none⟩ u).ownsRow 0 e size (.slice (some ⟨g,0,none⟩) n cap) n (xs.set o u):=by
 obtain ⟨h1,h2⟩:=h;refine ⟨by simpa using h1,?_⟩;rcases h2 with ⟨h2,_⟩ | ⟨g',cap',cur,hv,hg,hh,h3,h4,h5,h6⟩
 ·cases h2
 ·simp only [Value.slice.injEq,Option.some.injEq,Addr.mk.injEq,and_true,true_and] at hv;obtain ⟨rfl,rfl⟩:=hv;refine .inr ⟨g,cap,cur.setIfInBounds o u,rfl,hg,heap_setCell_same w g o cur e u hh,h3,h4,by simpa using h5,?_⟩;rw [Array.toList_setIfInBounds,List.take_set,h6]
theorem ownsRow_cell {w : World} {e : TypeId} {size : Nat} {g n cap : Nat} {xs : List Value} (h : w.ownsRow 0 e size (.slice (some ⟨g,0,none⟩) n cap) n xs) {o : Nat} {u : Value} (hu : xs[o]? = some u) : w.cell? ⟨g,o,none⟩ = some u:=by
 have:=h.cells (g:=g) rfl o u hu
 simpa [Addr.add_lit] using this
theorem ownsRow_frozen {w : World} {e : TypeId} {size : Nat} {g n cap : Nat} {xs : List Value} (h : w.ownsRow 0 e size (.slice (some ⟨g,0,none⟩) n cap) n xs) : ∀ o,w.frozen? ⟨g,o,none⟩ = false:=by
 intro o;rcases h.2 with ⟨h2,_⟩ | ⟨g',cap',cur,hv,hg,hh,h3,h4,h5,h6⟩
 ·cases h2
 ·simp only [Value.slice.injEq,Option.some.injEq,Addr.mk.injEq,and_true,true_and] at hv;obtain ⟨rfl,rfl⟩:=hv;simp [World.frozen?,hh]
theorem ownsRow_shape {w : World} {e : TypeId} {size : Nat} {v : Value} {n : Nat} {xs : List Value} (h : w.ownsRow 0 e size v n xs) (hn : n≠0) : ∃ g cap,v = .slice (some ⟨g,0,none⟩) n cap/\n<=cap:=by
 rcases h.2 with ⟨_,h⟩ | ⟨g,cap,_,h,_,_,h2,_⟩
 ·exact absurd h hn
 ·exact ⟨g,cap,h,h2⟩
theorem tab_get {α : Type} (f : α->List Value) (k : Nat) (hk : ∀ x,(f x).length = k) : ∀ (l : List α) (i j : Nat) (x : α),l[i]? = some x->j < k->(l.flatMap f)[i * k + j]? = (f x)[j]?
 | [],i,j,x,h,_=>by simp at h
 | y :: r,0,j,x,h,hj=>by
  simp at h; subst h;simp only [List.flatMap_cons,Nat.zero_mul,Nat.zero_add];rw [List.getElem?_append_left (by rw [hk]; exact hj)]
 | y :: r,i + 1,j,x,h,hj=>by
  simp only [List.getElem?_cons_succ] at h;simp only [List.flatMap_cons];rw [List.getElem?_append_right (by rw [hk,Nat.add_mul]; omega),hk,show (i + 1) * k + j - k = i * k + j by rw [Nat.add_mul]; omega];exact tab_get f k hk r i j x h hj
theorem tab_set {α : Type} (f : α->List Value) (k : Nat) (hk : ∀ x,(f x).length = k) : ∀ (l : List α) (i j : Nat) (x y : α) (u : Value),l[i]? = some x->j < k->(f x).set j u = f y->(l.flatMap f).set (i * k + j) u = (l.set i y).flatMap f
 | [],i,j,x,y,u,h,_,_=>by simp at h
 | z :: r,0,j,x,y,u,h,hj,hs=>by
  simp at h; subst h;simp only [List.flatMap_cons,Nat.zero_mul,Nat.zero_add,List.set_cons_zero];rw [List.set_append_left _ _ (by rw [hk]; exact hj),hs]
 | z :: r,i + 1,j,x,y,u,h,hj,hs=>by
  simp only [List.getElem?_cons_succ] at h;simp only [List.flatMap_cons,List.set_cons_succ];rw [List.set_append_right _ _ (by rw [hk,Nat.add_mul]; omega),hk,show (i + 1) * k + j - k = i * k + j by rw [Nat.add_mul]; omega];rw [tab_set f k hk r i j x y u h hj hs]
theorem tab_len {α : Type} (f : α->List Value) (k : Nat) (hk : ∀ x,(f x).length = k) : ∀ l : List α,(l.flatMap f).length = l.length * k
 | []=>by simp
 | y :: r=>by simp only [List.flatMap_cons,List.length_append,hk,List.length_cons,tab_len f k hk r,Nat.add_mul]; omega
theorem At.grown {w w' : World} {b : Nat} {c : List Value} {e : TypeId} {row : Option Nat} (h : At w b c e) (hg : w.grownBy w' row) (hne : row≠some b) : At w' b c e:=by
 have:=h.lt
 unfold At at *; rw [hg.block b this (fun e=>hne e.symm)]; exact h
theorem At.newAt {w : World} {b : Nat} (hb : b = w.heap.size) (c : List Value) (e : TypeId) : At (w.alloc (.cells c.toArray e)) b c e:=by subst hb; exact At.new w c e
theorem ownsRow_base {w : World} {base : Nat} {e : TypeId} {size : Nat} {v : Value} {n : Nat} {xs : List Value} (h : w.ownsRow base e size v n xs) : w.ownsRow 0 e size v n xs:=by
 refine ⟨h.1,?_⟩;rcases h.2 with h2 | ⟨g,cap,cur,h1,_,h2⟩
 ·exact .inl h2
 ·exact .inr ⟨g,cap,cur,h1,Nat.zero_le _,h2⟩
theorem ownsRow_alloc {w : World} {base : Nat} {e : TypeId} {size : Nat} {v : Value} {n : Nat} {xs : List Value} (h : w.ownsRow base e size v n xs) (o : Obj) : (w.alloc o).ownsRow base e size v n xs:=h.alloc o
theorem wpList_push {P : Program} (w : World) {ops : Array Oper} {rest : List Oper} {o : Oper} {a : Act} {Q : Exit->Act->World->Prop} (hgd : o.guard = none) (s x : Operand) (t : TypeId)
  (ho : o.op = .call { callee:=.builtin .append,args:=#[s,x],argTypes:=#[t,t] })
  (base : Nat) (e : TypeId) (i : TypeInfo) (z : Value) (size bytes : Nat) (ht : P.underlying t = some (.slice e)) (hi : P.info? e = some i) (hz : i.zero = some z)
  (hsize : i.size = size) (hby : i.bytes = bytes) (hzs : z.cells.size = size) (hsz : 0 < size)
  (v : Value) (n : Nat) (xs : List Value) (hs : a.eval s = v) (hown : w.ownsRow base e size v n xs)
  (b : Nat) (news : List Value) (hx : a.eval x = .slice (some ⟨b,0,none⟩) 1 1) (hl : news.length = size) (e' : TypeId) (hnews : At w b news e') (h1 : ∀ u ∈ news,u.oneCell' = true)
  (h63 : n + 1<=maxLen) (hbytes : (n + 1) * bytes<=140737488355328) (hbase : base<=w.heap.size)
  (h : ∀ g cap w',w'.ownsRow base e size (.slice (some ⟨g,0,none⟩) (n + 1) cap) (n + 1) (xs ++ news)->w.grownBy w' v.ownBlock->(v.ownBlock = some g\/w.heap.size<=g)->wpList P ops Q rest (a.put o.dst (.slice (some ⟨g,0,none⟩) (n + 1) cap)) w') :
  wpList P ops Q (o :: rest) a w:=by
 have hc : ∀ j u,news[j]? = some u->w.cell? ((⟨b,0,none⟩ : Addr).add j) = some u:=by
  intro j u hu; rw [Addr.add_lit,Nat.zero_add,hnews.cell]; exact hu
 have hgrow : ∀ (v' : Value) (w' : World),w'.ownsRow w.heap.size e size v' (n + 1) (xs ++ news)->w.grownBy w' none->wpList P ops Q rest (a.put o.dst v') w':=by
  intro v' w' h2 h3;rcases h2.2 with ⟨_,h4⟩ | ⟨g,cap,cur,rfl,h5,h6,h7⟩
  ·omega
  ·exact h g cap w' ⟨h2.1,.inr ⟨g,cap,cur,rfl,by omega,h6,h7⟩⟩ ⟨h3.os,h3.tape,h3.output,h3.size,fun k hk _=>h3.block k hk (by simp)⟩ (.inr h5)
 rcases hown.2 with ⟨hv,hn⟩ | ⟨g,cap,cur,hv,hbg,hcur,hnc,hcm,hcs,htake⟩
 ·have hx0 : xs = []:=List.eq_nil_of_length_eq_zero (by rw [hown.1,hn]; simp);subst hn;refine wpList_append_grows w hgd s x t ho e i z size bytes ht hi hz hsize hby hzs hsz none 0 0 xs (by rw [hs,hv]) (fun _=>⟨rfl,rfl⟩) (by rw [hx0]; simp) (by intro b hb; cases hb) ⟨b,0,none⟩ 1 1 news hx (by rw [hl,Nat.one_mul]) hc h1 (by omega) h63 hbytes hgrow
 ·by_cases hroom : n + 1<=cap
  ·subst hv;refine wpList_append_fits w hgd s x t ho base e i size ht hi hsize g n cap xs hs hown ⟨b,0,none⟩ 1 1 news hx (by rw [hl,Nat.one_mul]) hc h1 hroom ?_;intro w' h2 h3;exact h g cap w' h2 h3 (.inl rfl)
  ·subst hv;refine wpList_append_grows w hgd s x t ho e i z size bytes ht hi hz hsize hby hzs hsz (some ⟨g,0,none⟩) n cap xs hs (by intro h; cases h) hown.1 ?_ ⟨b,0,none⟩ 1 1 news hx (by rw [hl,Nat.one_mul]) hc h1 (by omega) h63 hbytes hgrow;intro b' hb' j u hu;obtain rfl:=Option.some.inj hb';exact hown.cells (g:=g) rfl j u hu
theorem ret_int {k : IntKind} {a b : Int} (h : a = b) : Ending.returned (.int k a) = .returned (.int k b):=by rw [h]
theorem ret_bool {a b : Bool} (h : a = b) : Ending.returned (.bool a) = .returned (.bool b):=by rw [h]
def isIn (n a b : Int) : Bool:=decide (a<=n/\n<=b)
theorem isIn_true {n a b : Int} (h : a<=n/\n<=b) : isIn n a b = true:=decide_eq_true h
theorem isIn_false {n a b : Int} (h : ¬ (a<=n/\n<=b)) : isIn n a b = false:=decide_eq_false h
theorem isIn_iff {n a b : Int} : isIn n a b = true ↔ a<=n/\n<=b:=decide_eq_true_iff
theorem ownsRow_lt0 {w : World} {e : TypeId} {size : Nat} {g n cap : Nat} {xs : List Value} (h : w.ownsRow 0 e size (.slice (some ⟨g,0,none⟩) n cap) n xs) : g < w.heap.size:=(h.lt g rfl).2
theorem Fr.drewN {S : Nat->Prop} {a w : World} (h : Fr S a w) (n : Nat) : Fr S a (w.drewN n):=⟨h.os,h.tape,h.output,h.size,h.block⟩
theorem At.drewN {w : World} {b : Nat} {c : List Value} {e : TypeId} (h : At w b c e) (n : Nat) : At (w.drewN n) b c e:=h
theorem mkH (p : Prop) (h : p) : Go.RowKit.Hid p := h
end
section
def upd {α : Type} (f : Bool->α) (s : Bool) (v : α) : Bool->α:=fun r=>if r = s then v else f r
def b2i (b : Bool) : Int:=if b then 1 else 0
theorem b2i_true : b2i true = 1:=rfl
theorem b2i_false : b2i false = 0:=rfl
theorem b2i_beq (a b : Bool) : (b2i a == b2i b) = (a == b):=by cases a <;> cases b <;> rfl
structure BAns where
 err : Int:=0
 did : Bool:=false
 value : Int:=0
 stamp : Int:=0
 spans : List (List (Int × Int)):=[]
def inSpan (p : Int × Int) (q : Int × Int) : Bool:=isIn q.1 p.1 p.2
def spanLists (spans found : List (Int × Int)) : List (List (Int × Int)):=spans.map fun p=>found.filter (inSpan p)
def lensOf : List (List (Int × Int))->Nat
 | []=>0
 | l :: r=>l.length + lensOf r
end
section
structure PNode where
 key : Int
 value : Int
 dead : Bool
 retired : Bool
 retiredAt : Int
 used : Bool
 holder : Int
 links : Nat
 leads : Bool->Int
structure PEntry where
 used : Bool
 pending : Bool
 src : Int
 side : Bool
 dst : Int
 stamp : Int
def PNode.zero : PNode:=⟨0,0,false,false,0,false,0,0,fun _=>0⟩
def PEntry.zero : PEntry:=⟨false,false,0,false,0,0⟩
structure PMem where
 ns : List PNode
 es : List PEntry
def find {α : Type} (p : α->Bool) : List α->Nat->Int
 | [],_=>-1
 | x :: r,i=>if p x then i else find p r (i + 1)
theorem find_skip {α : Type} (p : α->Bool) : ∀ (l : List α) (i k : Nat),k<=l.length->(∀ j,j < k->∀ x,l[j]? = some x->p x = false)->find p l i = find p (l.drop k) (i + k)
 | l,i,0,_,_=>by simp
 | [],i,k + 1,h,_=>by simp at h
 | x :: r,i,k + 1,h,hp=>by
  have h0:=hp 0 (by omega) x rfl;rw [find,if_neg (by simp [h0]),find_skip p r (i + 1) k (by simpa using h) (fun j hj y hy=>hp (j + 1) (by omega) y (by simpa using hy))];simp only [List.drop_succ_cons]; congr 1; omega
theorem find_hit {α : Type} (p : α->Bool) (l : List α) (k : Nat) (x : α) (hx : l[k]? = some x) (hp : ∀ j,j < k->∀ y,l[j]? = some y->p y = false) (h : p x = true) : find p l 0 = k:=by
 have hk:=(List.getElem?_eq_some_iff.1 hx).1;rw [find_skip p l 0 k (by omega) hp,List.drop_eq_getElem_cons hk,find,if_pos (by rw [(List.getElem?_eq_some_iff.1 hx).2]; exact h)]
 simp
theorem find_miss {α : Type} (p : α->Bool) (l : List α) (hp : ∀ j,j < l.length->∀ y,l[j]? = some y->p y = false) : find p l 0 = -1:=by
 rw [find_skip p l 0 l.length (by omega) hp,List.drop_length,find]
theorem find_bd {α : Type} (p : α->Bool) : ∀ (l : List α) (i : Nat),(find p l i = -1/\∀ x ∈ l,p x = false)\/(∃ k x,l[k]? = some x/\p x = true/\find p l i = ((i + k : Nat) : Int)/\∀ j,j < k->∀ y,l[j]? = some y->p y = false)
 | [],i=>.inl ⟨rfl,by simp⟩
 | y :: r,i=>by
  by_cases h : p y = true
  ·right; exact ⟨0,y,rfl,h,by simp [find,h],by omega⟩
  ·rw [find,if_neg h];rcases find_bd p r (i + 1) with ⟨h1,h2⟩ | ⟨k,x,h1,h2,h3,h4⟩
   ·left; exact ⟨h1,by intro x hx; rcases List.mem_cons.1 hx with rfl | hx; simpa using h; exact h2 x hx⟩
   ·right;refine ⟨k + 1,x,by simpa using h1,h2,by rw [h3]; congr 1; omega,?_⟩;intro j hj z hz;cases j with
    | zero=>simp at hz; subst hz; simpa using h
    | succ j=>exact h4 j (by omega) z (by simpa using hz)
def PMem.hasNode (M : PMem) (i : Int) : Bool:=isIn i 0 (M.ns.length - 1)
def PMem.hasEntry (M : PMem) (i : Int) : Bool:=isIn i 0 (M.es.length - 1)
def PMem.node (M : PMem) (i : Int) : PNode:=if M.hasNode i then M.ns[i.toNat]?.getD PNode.zero else PNode.zero
def PMem.ent (M : PMem) (i : Int) : PEntry:=M.es[i.toNat]?.getD PEntry.zero
def PMem.modN (M : PMem) (i : Int) (f : PNode->PNode) : PMem:=if M.hasNode i then { M with ns:=M.ns.modify i.toNat f } else M
def PMem.setE (M : PMem) (i : Int) (e : PEntry) : PMem:={ M with es:=M.es.set i.toNat e }
def PMem.freeEntry (M : PMem) : Int:=find (fun x=>!x.used) M.es 0
def PMem.freeNode (M : PMem) : Int:=find (fun x=>!x.used) M.ns 0
def isPd (n : Int) (s : Bool) (e : PEntry) : Bool:=e.pending && (e.src == n && e.side == s)
def isSt (n : Int) (s : Bool) (e : PEntry) : Bool:=e.used && (!e.pending && (e.src == n && e.side == s))
def PMem.pending (M : PMem) (n : Int) (s : Bool) : Int:=find (isPd n s) M.es 0
def PMem.hasLink (M : PMem) (n : Int) (s : Bool) : Bool:=M.hasNode n && decide (b2i s < (M.node n).links)
def PMem.pend (M : PMem) (n : Int) (s : Bool) (to : Int) : PMem :=
 if M.hasEntry M.freeEntry && M.hasLink n s then M.setE M.freeEntry ⟨true,true,n,s,to,0⟩ else M
def PMem.unpend (M : PMem) (n : Int) (s : Bool) : PMem :=
 if M.hasEntry (M.pending n s) then M.setE (M.pending n s) PEntry.zero else M
def PMem.stamp (M : PMem) (n : Int) (s : Bool) (st : Int) : PMem :=
 if M.hasEntry (M.pending n s) then M.setE (M.pending n s) { M.ent (M.pending n s) with pending:=false,stamp:=st } else M
def PMem.stampNew (M : PMem) (n st : Int) : PMem:=(M.stamp n false st).stamp n true st
def PMem.hasPending (M : PMem) (n : Int) (s : Bool) : Bool:=M.pending n s != -1
def linked (s : Bool) (to : Int) (x : PNode) : PNode:={ x with links:=x.links + 1,leads:=upd x.leads s to }
def PMem.addLink (M : PMem) (n to : Int) : PMem :=
 if M.hasNode n && M.freeEntry != -1 then
  match (M.node n).links with
  | 0=>(M.modN n (linked false to)).pend n false to
  | 1=>(M.modN n (linked true to)).pend n true to
  | _=>M
 else M
def PNode.made (key value : Int) : PNode:={ PNode.zero with key:=key,value:=value,used:=true,holder:=-1 }
def PMem.make (M : PMem) (key value : Int) : PMem × Int :=
 if M.hasNode M.freeNode then ({ M with ns:=M.ns.set M.freeNode.toNat (PNode.made key value) },M.freeNode) else (M,-1)
def ofNode (n : Int) (e : PEntry) : Bool:=e.used && e.src == n
def PMem.free (M : PMem) (n : Int) : PMem :=
 if M.hasNode n && (n != 0 && n != 1) then { ns:=M.ns.set n.toNat PNode.zero,es:=M.es.map fun e=>if ofNode n e then PEntry.zero else e } else M
def PMem.lock (M : PMem) (n t : Int) : PMem × Bool :=
 if M.hasNode n then
  if (M.node n).holder != -1 && (M.node n).holder != t then (M,false) else (M.modN n fun x=>{ x with holder:=t },true)
 else (M,false)
def unlocked (t : Int) (x : PNode) : PNode:=if x.used && x.holder == t then { x with holder:=-1 } else x
def PMem.unlock (M : PMem) (t : Int) : PMem:={ M with ns:=M.ns.map (unlocked t) }
def PMem.kill (M : PMem) (n : Int) : PMem:=M.modN n fun x=>{ x with dead:=true }
def PMem.retire (M : PMem) (n time : Int) : PMem:=M.modN n fun x=>{ x with retired:=true,retiredAt:=time }
def retiredFrom : List PNode->Nat->List Nat
 | [],_=>[]
 | x :: r,i=>if x.retired then i :: retiredFrom r (i + 1) else retiredFrom r (i + 1)
def PMem.sideFor (M : PMem) (n key : Int) : Bool:=(M.node n).links == 2 && decide ((M.node n).key<=key)
def PMem.leadsTo (M : PMem) (n : Int) (s : Bool) : Int:=if M.hasLink n s then (M.node n).leads s else -1
def PMem.lead (M : PMem) (n : Int) (s : Bool) : PMem :=
 if M.hasEntry (M.pending n s) && M.hasLink n s then M.modN n fun x=>{ x with leads:=upd x.leads s (M.ent (M.pending n s)).dst } else M
def ledStep (n : Int) (s : Bool) (time : Int) (p : Int × Int) (e : PEntry) : Int × Int :=
 if isSt n s e && (decide (e.stamp<=time) && decide (p.1 < e.stamp)) then (e.stamp,e.dst) else p
def PMem.ledTo (M : PMem) (n : Int) (s : Bool) (time : Int) : Int:=(M.es.foldl (ledStep n s time) (-1,1)).2
def stampAbove (n : Int) (s : Bool) (above time : Int) (e : PEntry) : Bool:=isSt n s e && (decide (above < e.stamp) && decide (e.stamp<=time))
def dropOne (time : Int) (es : List PEntry) (k : Nat) : List PEntry :=
 match es[k]? with
 | some e=>if isSt e.src e.side e && es.any (stampAbove e.src e.side e.stamp time) then es.set k PEntry.zero else es
 | none=>es
def dropTo (time : Int) (es : List PEntry) : Nat->List PEntry
 | 0=>es
 | k + 1=>dropOne time (dropTo time es k) k
def PMem.drop (M : PMem) (time : Int) : PMem:={ M with es:=dropTo time M.es M.es.length }
def count {α : Type} (p : α->Bool) (l : List α) : Nat:=(l.filter p).length
def PMem.room (M : PMem) : Int × Int:=(count (fun x=>!x.used) M.ns,count (fun x=>!x.used) M.es)
structure PWork where
 kind : Int
 key : Int
 value : Int
 spans : List (Int × Int)
 next : Nat
 time : Int
 stand : Int
 ahead : Int
 above : Int
 locks : Nat
 made : List Int
 tsrc : Int
 tside : Bool
 links : List (Int × Bool)
 noted : List (Int × Int)
 ans : BAns
def PWork.zero : PWork:=⟨0,0,0,[],0,0,0,0,0,0,[],0,false,[],[],{}⟩
structure PThread where
 slot : Int
 busy : Bool
 work : PWork
 hasEnded : Bool
 last : BAns
def PThread.zero : PThread:=⟨0,false,PWork.zero,false,{}⟩
structure PSweep where
 made : Nat
 clock : Int
 retired : List Nat
 hasTime : Bool
 time : Int
def PSweep.zero : PSweep:=⟨0,0,[],false,0⟩
structure PSt where
 kind : Int
 limit : Int
 clock : Int
 mem : PMem
 ts : List PThread
 sweep : PSweep
def PSt.th (P : PSt) (i : Nat) : PThread:=P.ts[i]?.getD PThread.zero
def PSt.setW (P : PSt) (i : Nat) (k : PWork) : PSt:={ P with ts:=P.ts.modify i fun t=>{ t with work:=k } }
def PSt.setT (P : PSt) (i : Nat) (t : PThread) : PSt:={ P with ts:=P.ts.set i t }
def PSt.setM (P : PSt) (M : PMem) : PSt:={ P with mem:=M }
def PSt.leadsFrom (P : PSt) (n key : Int) : Int:=P.mem.leadsTo n (P.mem.sideFor n key)
def PSt.isPassed (P : PSt) (n key : Int) : Bool:=if P.kind = 1 then (P.mem.node n).links == 2 else decide ((P.mem.node n).key < key)
def PSt.meetsKey (P : PSt) (k : PWork) : Bool:=(P.mem.node k.ahead).key == k.key
def PSt.takesOut (P : PSt) (k : PWork) : Bool:=k.kind == 2 && P.meetsKey k
def PSt.wanted (P : PSt) (k : PWork) : List Int:=if P.takesOut k then (if P.kind = 1 then [k.above,k.stand] else [k.stand,k.ahead]) else [k.stand]
def PSt.asFound (P : PSt) (n to key : Int) : Bool:=!(P.mem.node n).dead && P.leadsFrom n key == to
def PSt.outdated (P : PSt) (k : PWork) : Bool :=
 if P.asFound k.stand k.ahead k.key then
  if P.kind = 0 then (P.mem.node k.ahead).dead else P.takesOut k && !P.asFound k.above k.stand k.key
 else true
def PSt.needs (P : PSt) (kind : Int) : Int × Int:=if kind = 2 then (0,1) else if P.kind = 1 then (2,3) else (1,2)
def PWork.home (k : PWork) : PWork:={ k with stand:=0,next:=4 }
def PWork.settle (k : PWork) (a : BAns) : PWork:={ k with ans:=a,next:=12 }
def PWork.conclude (k : PWork) (a : BAns) : PWork:={ k with ans:=a,next:=13 }
def PSt.walk (P : PSt) (k : PWork) : PWork :=
 if P.isPassed (P.leadsFrom k.stand k.key) k.key then { k with above:=k.stand,stand:=P.leadsFrom k.stand k.key }
 else { k with ahead:=P.leadsFrom k.stand k.key,next:=5 }
def PSt.lock (P : PSt) (i : Nat) (k : PWork) : PSt × Int :=
 if k.locks < (P.wanted k).length then
  if (P.mem.lock ((P.wanted k)[k.locks]?.getD 0) i).2 then
   ((P.setM (P.mem.lock ((P.wanted k)[k.locks]?.getD 0) i).1).setW i { k with locks:=k.locks + 1,next:=if (P.wanted k).length<=k.locks + 1 then 6 else k.next },1)
  else (P,2)
 else (P.setW i { k with next:=6 },1)
def PSt.check (P : PSt) (i : Nat) (k : PWork) : PSt :=
 if P.outdated k then (P.setM (P.mem.unlock i)).setW i ({ k with locks:=0 } : PWork).home
 else if P.meetsKey k == (k.kind == 1) then P.setW i (k.settle { stamp:=P.clock })
 else P.setW i { k with next:=7 }
def PMem.join (M : PMem) (one other : Int) : PMem × Int :=
 let lesser:=if (M.node other).key < (M.node one).key then other else one
 let greater:=if (M.node other).key < (M.node one).key then one else other
 let p:=M.make (M.node greater).key 0
 ((p.1.addLink p.2 lesser).addLink p.2 greater,p.2)
def PSt.prepareInsert (P : PSt) (k : PWork) : PMem × PWork :=
 let p:=P.mem.make k.key k.value
 let s:=p.1.sideFor k.stand k.key
 if P.kind = 0 then
  (((p.1.addLink p.2 k.ahead).pend k.stand s p.2),{ k with made:=k.made ++ [p.2],tsrc:=k.stand,tside:=s })
 else
  let q:=p.1.join p.2 k.ahead
  (q.1.pend k.stand s q.2,{ k with made:=k.made ++ [p.2] ++ [q.2],tsrc:=k.stand,tside:=s })
def PSt.prepareRemove (P : PSt) (k : PWork) : PMem × PWork :=
 let s:=P.mem.sideFor k.stand k.key
 if P.kind = 0 then
  (P.mem.pend k.stand s (P.leadsFrom k.ahead k.key),{ k with tsrc:=k.stand,tside:=s })
 else
  let r:=P.mem.sideFor k.above k.key
  (P.mem.pend k.above r (P.mem.leadsTo k.stand (!s)),{ k with tsrc:=k.above,tside:=r })
def PSt.prepare (P : PSt) (i : Nat) (k : PWork) : PSt :=
 if P.mem.room.1 < (P.needs k.kind).1\/P.mem.room.2 < (P.needs k.kind).2 then P.setW i (k.settle { err:=7 })
 else
  let p:=if k.kind = 1 then P.prepareInsert k else P.prepareRemove k
  (P.setM p.1).setW i { p.2 with next:=8 }
def PMem.frees (M : PMem) : List Int->PMem
 | []=>M
 | n :: r=>(M.free n).frees r
def PMem.stampsNew (M : PMem) (st : Int) : List Int->PMem
 | []=>M
 | n :: r=>(M.stampNew n st).stampsNew st r
def PMem.kills (M : PMem) : List Int->PMem
 | []=>M
 | n :: r=>(M.kill n).kills r
def PMem.retires (M : PMem) (time : Int) : List Int->PMem
 | []=>M
 | n :: r=>(M.retire n time).retires time r
def PSt.take (P : PSt) (i : Nat) (k : PWork) : PSt :=
 if P.limit<=P.clock then (P.setM ((P.mem.unpend k.tsrc k.tside).frees k.made)).setW i (k.settle { err:=8 })
 else
  let P1:={ P with clock:=P.clock + 1 }
  if k.kind = 2 then P1.setW i { k with ans:={ did:=true,stamp:=P.clock + 1,value:=(P.mem.node k.ahead).value },next:=9 }
  else (P1.setM (P.mem.stampsNew (P.clock + 1) k.made)).setW i { k with ans:={ did:=true,stamp:=P.clock + 1 },next:=10 }
def PSt.takenOut (P : PSt) (k : PWork) : List Int:=if P.kind = 1 then [k.ahead,k.stand] else [k.ahead]
def PSt.unlock (P : PSt) (i : Nat) (k : PWork) : PSt :=
 let M:=P.mem.unlock i
 (P.setM (if k.kind = 2/\k.ans.did = true then M.retires P.clock (P.takenOut k) else M)).setW i { k with locks:=0,next:=13 }
def PSt.update (P : PSt) (i : Nat) (k : PWork) : PSt × Int :=
 match k.next with
 | 4=>(P.setW i (P.walk k),1)
 | 5=>P.lock i k
 | 6=>(P.check i k,1)
 | 7=>(P.prepare i k,1)
 | 8=>(P.take i k,1)
 | 9=>((P.setM (P.mem.kills (P.takenOut k))).setW i { k with next:=10 },1)
 | 10=>((P.setM (P.mem.lead k.tsrc k.tside)).setW i { k with next:=11 },1)
 | 11=>((P.setM (P.mem.stamp k.tsrc k.tside k.ans.stamp)).setW i { k with next:=12 },1)
 | 12=>(P.unlock i k,1)
 | _=>(P,1)
def leastLo (l : List (Int × Int)) : Int:=l.foldl (fun m p=>if p.1 < m then p.1 else m) (2 ^ 40)
def greatestHi (l : List (Int × Int)) : Int:=l.foldl (fun m p=>if p.2 > m then p.2 else m) 0
def PSt.linkNext (P : PSt) (k : PWork) : Int × Bool:=match k.links with
 | p :: _=>p
 | []=>(k.stand,P.mem.sideFor k.stand k.key)
def PSt.lookUp (P : PSt) (k : PWork) (ahead : Int) : PWork :=
 if P.isPassed ahead k.key then { k with stand:=ahead }
 else k.conclude (if (P.mem.node ahead).key = k.key then { stamp:=k.time,did:=true,value:=(P.mem.node ahead).value } else { stamp:=k.time })
def PSt.linksWithin (P : PSt) (n lo hi : Int) : List (Int × Bool) :=
 if P.kind = 0 then (if (P.mem.node n).key<=hi then [(n,false)] else [])
 else (if (P.mem.node n).links == 2 && decide (lo < (P.mem.node n).key) then [(n,false)] else []) ++ (if (P.mem.node n).links == 2 && decide ((P.mem.node n).key<=hi) then [(n,true)] else [])
def answerOf (spans noted : List (Int × Int)) (stamp : Int) : BAns :=
 if lensOf (spanLists spans noted) > 64 then { err:=9 } else { stamp:=stamp,spans:=spanLists spans noted }
def PSt.scan (P : PSt) (k : PWork) (ahead : Int) : PWork :=
 let lo:=leastLo k.spans
 let hi:=greatestHi k.spans
 let nd:=P.mem.node ahead
 let noted:=if !(nd.links == 2) && isIn nd.key lo hi then k.noted ++ [(nd.key,nd.value)] else k.noted
 let links:=P.linksWithin ahead lo hi ++ k.links.drop 1
 let k1:={ k with noted:=noted,links:=links }
 if links.length = 0 then k1.conclude (answerOf k.spans noted k.time) else k1
def PSt.read (P : PSt) (i : Nat) (k : PWork) : PSt × Int :=
 let p:=P.linkNext k
 if P.mem.hasPending p.1 p.2 then (P,2)
 else (P.setW i (if k.kind = 3 then P.lookUp k (P.mem.ledTo p.1 p.2 k.time) else P.scan k (P.mem.ledTo p.1 p.2 k.time)),1)
def PThread.leave (t : PThread) : PThread:={ t with slot:=0,last:=t.work.ans,hasEnded:=true,busy:=false,work:=PWork.zero }
def PSt.step (P : PSt) (i : Nat) (t : PThread) : PSt × Int :=
 match t.work.next with
 | 1=>(P.setT i { t with slot:=1,work:={ t.work with next:=2 } },1)
 | 2=>(P.setT i { t with work:={ t.work with time:=P.clock,next:=3 } },1)
 | 3=>(P.setT i { t with slot:=2,work:=t.work.home },1)
 | 13=>(P.setT i t.leave,3)
 | _=>if t.work.kind = 3\/t.work.kind = 4 then P.read i t.work else P.update i t.work
def spansOkX : List (Int × Int)->Bool
 | []=>true
 | p :: r=>isIn p.1 0 (2 ^ 40) && (isIn p.2 0 (2 ^ 40) && (decide (p.1<=p.2) && spansOkX r))
def checkOp (kind key : Int) (spans : List (Int × Int)) : Int :=
 if kind = 1\/kind = 2\/kind = 3 then (if isIn key 0 (2 ^ 40) then 0 else 5)
 else if kind = 4 then (if isIn spans.length 1 16 && spansOkX spans then 0 else 6)
 else 5
def newWork (kind key value : Int) (spans : List (Int × Int)) : PWork :=
 let k:={ PWork.zero with kind:=kind,next:=1 }
 if kind = 1 then { k with key:=key,value:=value }
 else if kind = 2\/kind = 3 then { k with key:=key }
 else if kind = 4 then { k with spans:=spans,links:=[(0,false)] }
 else k
def PSt.begin (P : PSt) (i kind key value : Int) (spans : List (Int × Int)) : PSt × Int :=
 if isIn i 0 (P.ts.length - 1) then
  if (P.th i.toNat).busy then (P,3)
  else if checkOp kind key spans = 0 then (P.setT i.toNat { P.th i.toNat with busy:=true,work:=newWork kind key value spans },0) else (P,checkOp kind key spans)
 else (P,2)
def PSweep.lookAt (r : PSweep) (t : PThread) : PSweep :=
 if t.slot = 2 then { r with time:=if !r.hasTime || decide (t.work.time < r.time) then t.work.time else r.time,hasTime:=true } else r
def PMem.freesIf (M : PMem) (hasTime : Bool) (time : Int) : List Nat->PMem
 | []=>M
 | n :: r=>(if !hasTime || decide ((M.node n).retiredAt < time) then M.free n else M).freesIf hasTime time r
def PSt.doSweep (P : PSt) : PSt × Int :=
 let r:=P.sweep
 if r.made = 0 then ({ P with sweep:={ r with made:=1,clock:=P.clock,retired:=retiredFrom P.mem.ns 0 } },1)
 else if r.made - 1 < P.ts.length then
  if (P.th (r.made - 1)).slot = 1 then (P,2)
  else ({ P with sweep:={ r.lookAt (P.th (r.made - 1)) with made:=r.made + 1 } },1)
 else if r.made - 1 = P.ts.length then
  ({ P with mem:=P.mem.drop (if r.hasTime && decide (r.time < r.clock) then r.time else r.clock),sweep:={ r with made:=r.made + 1 } },1)
 else ({ P with mem:=P.mem.freesIf r.hasTime r.time r.retired,sweep:=PSweep.zero },3)
end
end Go.Proofs.YtfccelbmacjifabGreat
