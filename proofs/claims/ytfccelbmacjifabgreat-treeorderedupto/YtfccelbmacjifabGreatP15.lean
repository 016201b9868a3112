import Derived.Test.YtfccelbmacjifabGreatP0
import Derived.Test.YtfccelbmacjifabGreatP13
import Derived.Test.YtfccelbmacjifabGreatP14
set_option linter.unusedSimpArgs false
set_option maxRecDepth 100000
set_option maxHeartbeats 4000000
namespace Go.Proofs.YtfccelbmacjifabGreat
section
section
variable {P : Program} {ops : Array Oper} {md : Region.Mode} {C : Array Bool->World->Prop} {Ok : Array Bool->Nat->Prop}
def YieldsB (P : Program) (ops : Array Oper) (md : Region.Mode) (Ok : Array Bool->Nat->Prop) (C : Array Bool->World->Prop) (i : Nat) (o : Oper) (v : Value) (a : Act) : Prop :=
 (Region.wanted o (yielded ops a.tmps) = true/\∀ listed w,Closed md ops listed->i ∈ Region.ready md ops listed->Ok listed i->C listed w->runsTo P (C (listed.setIfInBounds i true)) v ((execOp a.eval o).run P w)) \/
 (Region.wanted o (yielded ops a.tmps) = false/\v = undef/\∀ listed w,Closed md ops listed->i ∈ Region.ready md ops listed->Ok listed i->C listed w->C (listed.setIfInBounds i true) w)
theorem YieldsB.of_same {i : Nat} {o : Oper} {v : Value} {a a' : Act} (hy : YieldsB P ops md Ok C i o v a) (he : execOp a'.eval o = execOp a.eval o)
  (hw : Region.wanted o (yielded ops a'.tmps) = Region.wanted o (yielded ops a.tmps)) : YieldsB P ops md Ok C i o v a':=by
 unfold YieldsB at *;rw [he,hw];exact hy
def bOp (P : Program) (ops : Array Oper) (md : Region.Mode) (Ok : Array Bool->Nat->Prop) (C : Array Bool->World->Prop) (i : Nat) (K : Act->Prop) (a : Act) : Prop :=
 match ops[i]? with
 | none=>K a
 | some o=>∃ v,YieldsB P ops md Ok C i o v a/\K (a.put o.dst v)
theorem bOp_mono {i : Nat} {a : Act} {K K' : Act->Prop} (h : ∀ a,K a->K' a) (hh : bOp P ops md Ok C i K a) : bOp P ops md Ok C i K' a:=by
 unfold bOp at *;split
 ·next ho=>simp only [ho] at hh; exact h _ hh
 ·next o ho =>
  simp only [ho] at hh;obtain ⟨v,h1,h2⟩:=hh;exact ⟨v,h1,h _ h2⟩
def wpAnyB (P : Program) (md : Region.Mode) (ops : Array Oper) (Ok : Array Bool->Nat->Prop) (C : Array Bool->World->Prop) (Q : Act->Prop) : Nat->Array Bool->Act->Prop
 | 0,listed,a=>Region.ready md ops listed = []/\Q a
 | fuel + 1,listed,a =>
  (Region.ready md ops listed = []->Q a) /\
  ∀ i ∈ Region.ready md ops listed,bOp P ops md Ok C i (wpAnyB P md ops Ok C Q fuel (listed.setIfInBounds i true)) a
theorem wpOp_of_bOp {i : Nat} {a : Act} {K : Act->Prop} {K' : Act->World->Prop} {Q' : Exit->Act->World->Prop} {w : World} {listed : Array Bool} (hcl : Closed md ops listed) (hi : i ∈ Region.ready md ops listed) (hok : Ok listed i) (hC : C listed w)
  (h : ∀ a w',C (listed.setIfInBounds i true) w'->K a->K' a w') (hh : bOp P ops md Ok C i K a) : wpOp P ops Q' i K' a w:=by
 obtain ⟨_,o,ho,_⟩:=mem_ready.1 hi;unfold bOp at hh;unfold wpOp;simp only [ho] at hh ⊢;obtain ⟨v,hy,hk⟩:=hh;rcases hy with ⟨hw,hr⟩ | ⟨hw,rfl,hr⟩
 ·rw [if_pos hw];left;have h3:=hr listed w hcl hi hok hC;unfold Oper.wp;generalize (execOp a.eval o).run P w = r at *;cases r with
  | ok n w' =>
   cases n <;> simp only [runsTo] at h3 <;> simp only [Oper.upon]
   case value u =>
    obtain ⟨rfl,e2⟩:=h3;exact h _ _ e2 hk
   case skip =>
    obtain ⟨rfl,e2⟩:=h3;exact h _ _ e2 hk
   case enter f args=>exact h3.mono fun e w'' ⟨he,hw''⟩=>by subst he; exact h _ _ hw'' hk
  | halt x w'=>simp only [runsTo] at h3
 ·rw [if_neg (by rw [hw]; exact Bool.false_ne_true)];exact h _ _ (hr listed w hcl hi hok hC) hk
def okAlong (md : Region.Mode) (ops : Array Oper) (Ok : Array Bool->Nat->Prop) : Nat->Nat->Array Bool->Prop
 | 0,_,_=>True
 | fuel + 1,t,listed=>match (Region.ready md ops listed)[t % (Region.ready md ops listed).length]? with
  | some i=>Ok listed i/\okAlong md ops Ok fuel (t / (Region.ready md ops listed).length) (listed.setIfInBounds i true)
  | none=>True
theorem wpOps_of_B {Q : Act->Prop} {Q' : Exit->Act->World->Prop} (hQ : ∀ listed a w,Closed md ops listed->Region.ready md ops listed = []->C listed w->Q a->Q' .normal a w) : ∀ (fuel t : Nat) (listed : Array Bool) (a : Act) (w : World),Closed md ops listed->C listed w ->
  okAlong md ops Ok fuel t listed->wpAnyB P md ops Ok C Q fuel listed a->wpOps P ops Q' (Region.linearise.go md ops fuel t listed []) a w
 | 0,_,_,_,_,hc,hw,_,h=>by simpa [Region.linearise.go,wpOps] using hQ _ _ _ hc h.1 hw h.2
 | fuel + 1,t,listed,a,w,hc,hw,hok,h=>by
  obtain ⟨h₀,h₁⟩:=h;simp only [Region.linearise.go]
  change wpOps P ops Q' (match (Region.ready md ops listed)[t % (Region.ready md ops listed).length]? with
   | some i=>Region.linearise.go md ops fuel (t / (Region.ready md ops listed).length) (listed.setIfInBounds i true) [i]
   | none=>[].reverse) a w
  unfold okAlong at hok;cases hi : (Region.ready md ops listed)[t % (Region.ready md ops listed).length]? with
  | none =>
   have hnil : Region.ready md ops listed = []:=by
    cases hr : Region.ready md ops listed with
    | nil=>rfl
    | cons x xs =>
     rw [hr] at hi;have hlt : t % (x :: xs).length < (x :: xs).length:=Nat.mod_lt _ (by simp);simp at hi;simp at hlt;omega
   simpa [wpOps] using hQ _ _ _ hc hnil hw (h₀ hnil)
  | some i =>
   rw [hi] at hok;have hmem:=List.mem_of_getElem? hi;simp only [];rw [linearise_go_acc,List.reverse_singleton,List.singleton_append,wpOps_cons];exact wpOp_of_bOp hc hmem hok.1 hw (fun a' w' hw'=>wpOps_of_B hQ fuel _ _ a' w' (hc.set hmem) hw' hok.2) (h₁ i hmem)
theorem bOp_put {i j : Nat} {oi oj : Oper} {v : Value} (hj : ops[j]? = some oj) (hap : oi.apart ops oj = true)
  (hsi : ∀ cs b,oi.op≠.select cs b) (hsj : ∀ cs b,oj.op≠.select cs b) {K : Act->Prop} {a : Act}
  (hy : YieldsB P ops md Ok C i oi v a) (h : bOp P ops md Ok C j K (a.put oi.dst v)) :
  bOp P ops md Ok C j (fun a'=>YieldsB P ops md Ok C i oi v a'/\K (a'.put oi.dst v)) a:=by
 obtain ⟨h1,h2,h3⟩:=Oper.apart_spec hap;have keep : ∀ (a : Act),YieldsB P ops md Ok C i oi v a->∀ u,YieldsB P ops md Ok C i oi v (a.put oj.dst u):=fun a hy u =>
  hy.of_same (execOp_put oi hsi a oj.dst u h3) (wanted_put oi a oj.dst u h3)
 unfold bOp at *;simp only [hj] at *;obtain ⟨u,hu,hn⟩:=h;exact ⟨u,hu.of_same (execOp_put oj hsj a oi.dst v h1).symm (wanted_put oj a oi.dst v h1).symm,keep a hy u,by rw [<- Act.put_comm a v u h2]; exact hn⟩
theorem YieldsB.bOp {i : Nat} {o : Oper} {v : Value} {a : Act} (hi : ops[i]? = some o) (hy : YieldsB P ops md Ok C i o v a) {K : Act->Prop} (h : K (a.put o.dst v)) : bOp P ops md Ok C i K a:=by
 unfold Go.Proofs.YtfccelbmacjifabGreat.bOp;simp only [hi];exact ⟨v,hy,h⟩
theorem wpAnyB_first {Q : Act->Prop} {i : Nat} {oi : Oper} {v : Value} (hi : ops[i]? = some oi) (hsel : ∀ (j : Nat) (o : Oper) cs b,ops[j]? = some o->o.op≠.select cs b) :
  ∀ (fuel : Nat) (listed : Array Bool) (a : Act),
   (∀ j oj,ops[j]? = some oj->j≠i->listed.getD j true = false->(∀ e ∈ oj.after,Region.binds md e = true->e.on≠i)->oi.apart ops oj = true) ->
   i ∈ Region.ready md ops listed->YieldsB P ops md Ok C i oi v a ->
   wpAnyB P md ops Ok C Q fuel (listed.setIfInBounds i true) (a.put oi.dst v)->wpAnyB P md ops Ok C Q (fuel + 1) listed a:=by
 intro fuel
 induction fuel with
 | zero =>
  intro listed a _ hr hy H;refine ⟨fun h=>(by rw [h] at hr; cases hr),fun j hj=>?_⟩;by_cases hji : j = i
  ·subst hji; exact hy.bOp hi H
  ·have:=ready_mono hj hji
   rw [H.1] at this;cases this
 | succ fuel ih =>
  intro listed a hfree hr hy H;refine ⟨fun h=>(by rw [h] at hr; cases hr),fun j hj=>?_⟩;by_cases hji : j = i
  ·subst hji; exact hy.bOp hi H
  ·have h1:=H.2 j (ready_mono hj hji);obtain ⟨hjun,oj,hoj,hall⟩:=mem_ready.1 hj;have hnot : ∀ e ∈ oj.after,Region.binds md e = true->e.on≠i:=fun e he hb heq=>by
    have h1:=hall e he hb;have h0:=(mem_ready.1 hr).1;rw [heq] at h1;rcases Nat.lt_or_ge i listed.size with h' | h'
    ·simp [h'] at h0 h1; rw [h0] at h1; cases h1
    ·simp [Array.getElem?_eq_none h'] at h1
   have h2:=bOp_put hoj (hfree j oj hoj hji hjun hnot) (fun cs b=>hsel i oi cs b hi) (fun cs b=>hsel j oj cs b hoj) hy h1;have hfree' : ∀ k ok,ops[k]? = some ok->k≠i->(listed.setIfInBounds j true).getD k true = false ->
     (∀ e ∈ ok.after,Region.binds md e = true->e.on≠i)->oi.apart ops ok = true:=fun k ok hk hki hun hno=>by
    refine hfree k ok hk hki ?_ hno;by_cases hjk : j = k
    ·subst hjk; exact hjun
    ·rw [getD_set_ne true hjk] at hun; exact hun
   refine bOp_mono (fun a' h3=>ih (listed.setIfInBounds j true) a' hfree' (ready_mono hr (Ne.symm hji)) h3.1 ?_) h2;rw [Array.setIfInBounds_comm _ _ hji];exact h3.2
def wpLexB (P : Program) (ops : Array Oper) (md : Region.Mode) (Ok : Array Bool->Nat->Prop) (C : Array Bool->World->Prop) (Q : Act->Prop) : Nat->List Oper->Act->Prop
 | _,[],a=>Q a
 | k,o :: rest,a=>∃ v,YieldsB P ops md Ok C k o v a/\wpLexB P ops md Ok C Q (k + 1) rest (a.put o.dst v)
theorem wpAnyB_lex {Q : Act->Prop} (hs : Region.noSelect ops = true) : ∀ (l : List Oper) (k : Nat) (listed : Array Bool) (a : Act),(∀ j,l[j]? = ops[k + j]?) ->
  Region.lexFrom md ops l.length k listed = true->wpLexB P ops md Ok C Q k l a->wpAnyB P md ops Ok C Q l.length listed a
 | [],_,_,_,_,hB,h=>⟨by simpa [Region.lexFrom] using hB,h⟩
 | o :: l,k,listed,a,hl,hB,h=>by
  have h0 : ops[k]? = some o:=by simpa using (hl 0).symm
  simp only [List.length_cons,Region.lexFrom,Bool.and_eq_true] at hB;obtain ⟨⟨hr,hf⟩,hB'⟩:=hB;obtain ⟨v,hy,hK⟩:=h;exact wpAnyB_first h0 (Region.noSelect_spec hs) l.length listed a (Region.free_spec h0 hf) (by simpa using hr) hy
   (wpAnyB_lex hs l (k + 1) _ _ (fun j=>by have:=hl (j + 1); simpa [Nat.add_assoc,Nat.add_comm 1 j] using this) hB' hK)
theorem either (c b : Nat) (hcb : c≠b) : ∀ (fuel t : Nat) (listed : Array Bool),c < listed.size->b < listed.size ->
  okAlong md ops (fun listed i=>i = c->listed.getD b false = true) fuel t listed\/okAlong md ops (fun listed i=>i = b->listed.getD c false = true) fuel t listed:=by
 have all1 : ∀ (x y : Nat) (fuel t : Nat) (listed : Array Bool),x < listed.size->listed.getD x false = true->okAlong md ops (fun listed i=>i = y->listed.getD x false = true) fuel t listed:=by
  intro x y fuel
  induction fuel with
  | zero=>intro t listed _ _; trivial
  | succ fuel ih =>
   intro t listed hx hl;unfold okAlong;split
   ·next i _=>exact ⟨fun _=>hl,ih _ _ (by simpa using hx) (getD_set_true hl)⟩
   ·trivial
 intro fuel
 induction fuel with
 | zero=>intro t listed _ _; exact .inl trivial
 | succ fuel ih =>
  intro t listed hc hb;unfold okAlong;cases hi : (Region.ready md ops listed)[t % (Region.ready md ops listed).length]? with
  | none=>exact .inl trivial
  | some i =>
   by_cases h1 : i = c
   ·right;subst h1;refine ⟨fun e=>absurd e hcb,all1 i b fuel _ _ (by simpa using hc) ?_⟩;rw [Array.getD_eq_getD_getElem?,Array.getElem?_setIfInBounds];simp [hc]
   ·by_cases h2 : i = b
    ·left;subst h2;refine ⟨fun e=>absurd e.symm hcb,all1 i c fuel _ _ (by simpa using hb) ?_⟩;rw [Array.getD_eq_getD_getElem?,Array.getElem?_setIfInBounds];simp [hb]
    ·rcases ih (t / (Region.ready md ops listed).length) (listed.setIfInBounds i true) (by simpa using hc) (by simpa using hb) with h3 | h3
     ·exact .inl ⟨fun e=>absurd e h1,h3⟩
     ·exact .inr ⟨fun e=>absurd e h2,h3⟩
end
end
section
section
variable {P : Program} {ops : Array Oper} {md : Region.Mode}
def wpBox (P : Program) (ops : Array Oper) (w : World) (S : World->Prop) (c b e k addr : Nat) (c0 c1 : List Value) (T : TypeId) (Q : Act->Prop) : List Oper->Nat->Act->Prop
 | [],_,a=>Q a
 | o :: rest,i,a =>
  if i = c then o.guard = none/\∃ v,(∀ w',Fr (fun _=>False) w w'->runsTo P (fun w''=>Fr (fun _=>False) w' w''/\w''.heap.size = w'.heap.size + k) v ((execOp a.eval o).run P w'))/\wpBox P ops w S c b e k addr c0 c1 T Q rest (i + 1) (a.put o.dst v)
  else if i = b then o.guard = none/\(∀ w',runsTo P (fun w''=>w'' = w'.alloc (.cells c0.toArray T)) (.pointer (some ⟨w'.heap.size,0,none⟩)) ((execOp a.eval o).run P w'))/\wpBox P ops w S c b e k addr c0 c1 T Q rest (i + 1) (a.put o.dst (.pointer (some ⟨addr,0,none⟩)))
  else if i = e then o.guard = none/\(∀ w',At w' addr c0 T->runsTo P (fun w''=>Fr (fun j=>j = addr) w' w''/\At w'' addr c1 T) undef ((execOp a.eval o).run P w'))/\wpBox P ops w S c b e k addr c0 c1 T Q rest (i + 1) (a.put o.dst undef)
  else plainOp o.op = true/\if Region.wanted o (yielded ops a.tmps) then o.quiet P a S (wpBox P ops w S c b e k addr c0 c1 T Q rest (i + 1)) else wpBox P ops w S c b e k addr c0 c1 T Q rest (i + 1) (a.put o.dst undef)
section
variable {w : World} {S : World->Prop} {c b e k addr : Nat} {c0 c1 : List Value} {T : TypeId} {Q : Act->Prop} {o : Oper} {rest : List Oper} {i : Nat} {a : Act}
theorem box_nil (h : Q a) : wpBox P ops w S c b e k addr c0 c1 T Q [] i a:=h
theorem box_read (h1 : i≠c) (h2 : i≠b) (h3 : i≠e) (hp : plainOp o.op = true) (h : wpQuiet P ops S (fun a'=>wpBox P ops w S c b e k addr c0 c1 T Q rest (i + 1) a') [o] a) : wpBox P ops w S c b e k addr c0 c1 T Q (o :: rest) i a:=by
 rw [wpBox,if_neg h1,if_neg h2,if_neg h3];refine ⟨hp,?_⟩;unfold wpQuiet at h;split
 ·next hw=>rw [if_pos hw] at h; exact h
 ·next hw=>rw [if_neg hw] at h; exact h
theorem box_call (v : Value) (h1 : i = c) (hg : o.guard = none) (hr : ∀ w',Fr (fun _=>False) w w'->runsTo P (fun w''=>Fr (fun _=>False) w' w''/\w''.heap.size = w'.heap.size + k) v ((execOp a.eval o).run P w'))
  (h : wpBox P ops w S c b e k addr c0 c1 T Q rest (i + 1) (a.put o.dst v)) : wpBox P ops w S c b e k addr c0 c1 T Q (o :: rest) i a:=by
 rw [wpBox,if_pos h1]; exact ⟨hg,v,hr,h⟩
theorem box_alloc (h1 : i≠c) (h2 : i = b) (hg : o.guard = none) (hr : ∀ w',runsTo P (fun w''=>w'' = w'.alloc (.cells c0.toArray T)) (.pointer (some ⟨w'.heap.size,0,none⟩)) ((execOp a.eval o).run P w'))
  (h : wpBox P ops w S c b e k addr c0 c1 T Q rest (i + 1) (a.put o.dst (.pointer (some ⟨addr,0,none⟩)))) : wpBox P ops w S c b e k addr c0 c1 T Q (o :: rest) i a:=by
 rw [wpBox,if_neg h1,if_pos h2]; exact ⟨hg,hr,h⟩
theorem box_store (h1 : i≠c) (h2 : i≠b) (h3 : i = e) (hg : o.guard = none) (hr : ∀ w',At w' addr c0 T->runsTo P (fun w''=>Fr (fun j=>j = addr) w' w''/\At w'' addr c1 T) undef ((execOp a.eval o).run P w'))
  (h : wpBox P ops w S c b e k addr c0 c1 T Q rest (i + 1) (a.put o.dst undef)) : wpBox P ops w S c b e k addr c0 c1 T Q (o :: rest) i a:=by
 rw [wpBox,if_neg h1,if_neg h2,if_pos h3]; exact ⟨hg,hr,h⟩
end
def bit (listed : Array Bool) (i : Nat) : Bool:=listed.getD i false
structure BoxC (first : Bool) (w : World) (c b e k addr : Nat) (c0 c1 : List Value) (T : TypeId) (listed : Array Bool) (w' : World) : Prop where
 fr : Fr (fun _=>False) w w'
 ord : if first then bit listed c = true->bit listed b = true else bit listed b = true->bit listed c = true
 s0 : bit listed b = false->bit listed c = false->w'.heap.size = w.heap.size
 s1 : bit listed b = false->bit listed c = true->w'.heap.size = w.heap.size + k
 a0 : bit listed b = true->bit listed e = false->At w' addr c0 T
 a1 : bit listed e = true->At w' addr c1 T
def boxOk (first : Bool) (c b : Nat) (listed : Array Bool) (i : Nat) : Prop:=if first then (i = c->listed.getD b false = true) else (i = b->listed.getD c false = true)
theorem bit_set_ne {listed : Array Bool} {i j : Nat} (h : i≠j) : bit (listed.setIfInBounds i true) j = bit listed j:=getD_set_ne false h
theorem bit_set_same {listed : Array Bool} {i : Nat} (h : i < listed.size) : bit (listed.setIfInBounds i true) i = true:=by
 unfold bit; rw [Array.getD_eq_getD_getElem?,Array.getElem?_setIfInBounds]; simp [h]
theorem bit_ready {listed : Array Bool} {i : Nat} (hcl : Closed md ops listed) (hi : i ∈ Region.ready md ops listed) (hlt : i < ops.size) : bit listed i = false:=by
 have h:=(mem_ready.1 hi).1;rw [getD_flip (by rw [hcl.size]; exact hlt)] at h;exact h
theorem bit_waits {listed : Array Bool} {i j : Nat} (hcl : Closed md ops listed) (hw : waitsB md ops j i = true) (hj : bit listed j = true) : bit listed i = true:=by
 obtain ⟨o,e,h1,h2,h3,h4⟩:=waits_spec hw
 have:=hcl.dep j o h1 hj e h2 h3
 rw [h4] at this; exact this
theorem bit_waits_ready {listed : Array Bool} {i j : Nat} (hw : waitsB md ops j i = true) (hj : j ∈ Region.ready md ops listed) : bit listed i = true:=by
 obtain ⟨o,e,h1,h2,h3,h4⟩:=waits_spec hw;obtain ⟨_,o',ho',hall⟩:=mem_ready.1 hj;rw [h1] at ho'; obtain rfl:=Option.some.inj ho'
 have:=hall e h2 h3
 rw [h4] at this;unfold bit;rw [Array.getD_eq_getD_getElem?] at this ⊢;cases hl : listed[i]? with
 | none=>rw [hl] at this; simp at this
 | some x=>rw [hl] at this; simpa using this
theorem lex_of_box {w : World} {S : World->Prop} {first : Bool} {c b e k addr : Nat} {c0 c1 : List Value} {T : TypeId} {Q : Act->Prop} (hcb : c≠b) (hce : c≠e) (hbe : b≠e) (hwc : waitsB md ops e c = true) (hwb : waitsB md ops e b = true)
  (haddr : addr = if first then w.heap.size else w.heap.size + k) (hS : ∀ w',Fr (fun _=>False) w w'->S w') :
  ∀ (l : List Oper) (i : Nat) (a : Act),(∀ j,l[j]? = ops[i + j]?)->wpBox P ops w S c b e k addr c0 c1 T Q l i a->wpLexB P ops md (boxOk first c b) (BoxC first w c b e k addr c0 c1 T) Q i l a
 | [],_,_,_,h=>h
 | o :: rest,i,a,hl,h=>by
  have h0 : ops[i]? = some o:=by simpa using (hl 0).symm
  have hisz : i < ops.size:=(Array.getElem?_eq_some_iff.1 h0).1;have hl' : ∀ j,rest[j]? = ops[i + 1 + j]?:=fun j=>by have:=hl (j + 1); simpa [Nat.add_assoc,Nat.add_comm 1 j] using this
  rw [wpBox] at h;unfold wpLexB;by_cases hic : i = c
  ·rw [if_pos hic] at h;obtain ⟨hg,v,hr,hk⟩:=h;subst hic;refine ⟨v,.inl ⟨by simp [Region.wanted,hg],?_⟩,lex_of_box hcb hce hbe hwc hwb haddr hS rest (i + 1) _ hl' hk⟩;intro listed w' hcl hrd hok hC;have hbi:=bit_ready hcl hrd hisz;have hsz : i < listed.size:=by rw [hcl.size]; exact hisz
   have he0 : bit listed e = false:=by
    cases hv : bit listed e with
    | false=>rfl
    | true=>have:=bit_waits hcl hwc hv; rw [hbi] at this; cases this
   have hrun:=hr w' hC.fr;have step : ∀ w'',Fr (fun _=>False) w' w''/\w''.heap.size = w'.heap.size + k->BoxC first w i b e k addr c0 c1 T (listed.setIfInBounds i true) w'':=by
    rintro w'' ⟨hF,hz⟩;refine ⟨hC.fr.trans hF,?_,?_,?_,?_,?_⟩
    ·have ho:=hC.ord;cases first
     ·simp only [Bool.false_eq_true,if_false] at ho ⊢; intro _; exact bit_set_same hsz
     ·simp only [if_true] at ho ⊢; intro _; rw [bit_set_ne hcb]; exact hok rfl
    ·intro _ h2; rw [bit_set_same hsz] at h2; cases h2
    ·intro h1 _;rw [bit_set_ne hcb] at h1;rw [hz,hC.s0 h1 hbi]
    ·intro h1 h2;rw [bit_set_ne hcb] at h1;exact hF.at (hC.a0 h1 he0) (fun h=>h)
    ·intro h1; rw [bit_set_ne hce,he0] at h1; cases h1
   generalize (execOp a.eval o).run P w' = r at hrun ⊢;cases r with
   | ok n w1 =>
    cases n <;> simp only [runsTo] at hrun ⊢
    case value u=>exact ⟨hrun.1,step _ hrun.2⟩
    case skip=>exact ⟨hrun.1,step _ hrun.2⟩
    case enter f args=>exact hrun.mono fun e' w'' hh=>⟨hh.1,step _ hh.2⟩
   | halt x w1=>simp only [runsTo] at hrun
  ·rw [if_neg hic] at h;by_cases hib : i = b
   ·rw [if_pos hib] at h;obtain ⟨hg,hr,hk⟩:=h;subst hib;refine ⟨_,.inl ⟨by simp [Region.wanted,hg],?_⟩,lex_of_box hcb hce hbe hwc hwb haddr hS rest (i + 1) _ hl' hk⟩;intro listed w' hcl hrd hok hC;have hbi:=bit_ready hcl hrd hisz;have hsz : i < listed.size:=by rw [hcl.size]; exact hisz
    have he0 : bit listed e = false:=by
     cases hv : bit listed e with
     | false=>rfl
     | true=>have:=bit_waits hcl hwb hv; rw [hbi] at this; cases this
    have haz : w'.heap.size = addr:=by
     have ho:=hC.ord;cases first
     ·simp only [Bool.false_eq_true,if_false] at haddr;rw [haddr]; exact hC.s1 hbi (hok rfl)
     ·simp only [if_true] at ho haddr;have : bit listed c = false:=by
       cases hv : bit listed c with
       | false=>rfl
       | true=>have:=ho hv; rw [hbi] at this; cases this
      rw [haddr]; exact hC.s0 hbi this
    have hrun:=hr w';rw [haz] at hrun;have step : ∀ w'',w'' = w'.alloc (.cells c0.toArray T)->BoxC first w c i e k addr c0 c1 T (listed.setIfInBounds i true) w'':=by
     rintro w'' rfl;refine ⟨hC.fr.alloc _,?_,?_,?_,?_,?_⟩
     ·cases first
      ·simp only [Bool.false_eq_true,if_false]; intro _; rw [bit_set_ne (Ne.symm hcb)]; exact hok rfl
      ·simp only [if_true]; intro _; exact bit_set_same hsz
     ·intro h1; rw [bit_set_same hsz] at h1; cases h1
     ·intro h1; rw [bit_set_same hsz] at h1; cases h1
     ·intro _ _; exact At.newAt haz.symm _ _
     ·intro h1; rw [bit_set_ne hbe,he0] at h1; cases h1
    generalize (execOp a.eval o).run P w' = r at hrun ⊢;cases r with
    | ok n w1 =>
     cases n <;> simp only [runsTo] at hrun ⊢
     case value u=>exact ⟨hrun.1,step _ hrun.2⟩
     case skip=>exact ⟨hrun.1,step _ hrun.2⟩
     case enter f args=>exact hrun.mono fun e' w'' hh=>⟨hh.1,step _ hh.2⟩
    | halt x w1=>simp only [runsTo] at hrun
   ·rw [if_neg hib] at h;by_cases hie : i = e
    ·rw [if_pos hie] at h;obtain ⟨hg,hr,hk⟩:=h;subst hie;refine ⟨undef,.inl ⟨by simp [Region.wanted,hg],?_⟩,lex_of_box hcb hce hbe hwc hwb haddr hS rest (i + 1) _ hl' hk⟩;intro listed w' hcl hrd hok hC;have hei:=bit_ready hcl hrd hisz;have hsz : i < listed.size:=by rw [hcl.size]; exact hisz
     have hb1 : bit listed b = true:=bit_waits_ready hwb hrd;have hA:=hC.a0 hb1 hei;have hrun:=hr w' hA;have hge : w.heap.size<=addr:=by rw [haddr]; split <;> omega
     have step : ∀ w'',Fr (fun j=>j = addr) w' w''/\At w'' addr c1 T->BoxC first w c b i k addr c0 c1 T (listed.setIfInBounds i true) w'':=by
      rintro w'' ⟨hF,hA1⟩;refine ⟨Fr.transNew hC.fr hF (by rintro j rfl; exact .inr hge),?_,?_,?_,?_,fun _=>hA1⟩
      ·have ho:=hC.ord;rw [bit_set_ne (Ne.symm hce),bit_set_ne (Ne.symm hbe)]; exact ho
      ·intro h1; rw [bit_set_ne (Ne.symm hbe),hb1] at h1; cases h1
      ·intro h1; rw [bit_set_ne (Ne.symm hbe),hb1] at h1; cases h1
      ·intro _ h1; rw [bit_set_same hsz] at h1; cases h1
     generalize (execOp a.eval o).run P w' = r at hrun ⊢;cases r with
     | ok n w1 =>
      cases n <;> simp only [runsTo] at hrun ⊢
      case value u=>exact ⟨hrun.1,step _ hrun.2⟩
      case skip=>exact ⟨hrun.1,step _ hrun.2⟩
      case enter f args=>exact hrun.mono fun e' w'' hh=>⟨hh.1,step _ hh.2⟩
     | halt x w1=>simp only [runsTo] at hrun
    ·rw [if_neg hie] at h;obtain ⟨hp,h⟩:=h;have step : ∀ (listed : Array Bool) (w' : World),BoxC first w c b e k addr c0 c1 T listed w'->BoxC first w c b e k addr c0 c1 T (listed.setIfInBounds i true) w':=by
      intro listed w' hC;refine ⟨hC.fr,?_,?_,?_,?_,?_⟩
      ·rw [bit_set_ne hic,bit_set_ne hib]; exact hC.ord
      ·rw [bit_set_ne hic,bit_set_ne hib]; exact hC.s0
      ·rw [bit_set_ne hic,bit_set_ne hib]; exact hC.s1
      ·rw [bit_set_ne hib,bit_set_ne hie]; exact hC.a0
      ·rw [bit_set_ne hie]; exact hC.a1
     split at h
     ·next hw =>
      obtain ⟨v,hv,hk⟩:=h;refine ⟨v,.inl ⟨hw,?_⟩,lex_of_box hcb hce hbe hwc hwb haddr hS rest (i + 1) _ hl' hk⟩;intro listed w' hcl hrd _ hC;have hq:=hv w' (hS w' hC.fr);unfold Oper.quietAt at hq;generalize hres : (execOp a.eval o).run P w' = r at *;cases r with
      | ok n w1 =>
       cases n <;> simp only [Oper.quietUpon] at hq <;> simp only [runsTo]
       case value u=>exact ⟨hq.2,by rw [hq.1]; exact step _ _ hC⟩
       case skip=>exact ⟨hq.2,by rw [hq.1]; exact step _ _ hC⟩
       case enter f args=>exact absurd hres (plain_noEnter hp)
      | halt x w1=>simp only [Oper.quietUpon] at hq
     ·next hw =>
      refine ⟨undef,.inr ⟨by simpa using hw,rfl,?_⟩,lex_of_box hcb hce hbe hwc hwb haddr hS rest (i + 1) _ hl' h⟩;intro listed w' _ _ _ hC;exact step _ _ hC
theorem wp_region_box {id : Nat} {Q : Exit->Act->World->Prop} {a : Act} {w : World} {l : List Oper} (c b e k : Nat) (c0 c1 : List Value) (T : TypeId) (hm : P.follows .mixedOrders = true) (hB : Region.lexB .any l.toArray = true) (hlow : lowB .any l.toArray = true)
  (hcb : c≠b) (hce : c≠e) (hbe : b≠e) (hin : c < l.length/\b < l.length/\e < l.length) (hwc : waitsB .any l.toArray e c = true) (hwb : waitsB .any l.toArray e b = true)
  (h : ∀ (addr : Nat),w.heap.size<=addr->∀ (U : Type) (W : U->World),Nonempty U->(∀ u,Fr (fun _=>False) w (W u)) ->
   wpBox P l.toArray w (fun w'=>∃ u,w' = W u) c b e k addr c0 c1 T (fun a'=>∀ w',Fr (fun _=>False) w w'->At w' addr c1 T->Q .normal a' w') l 0 a) : (Code.region id l.toArray true).wp P Q a w:=by
 refine wp_region_draw fun t=>?_
 simp only [Region.schedule,hm,Bool.true_or,if_true];have hBB:=hB;simp only [Region.lexB,Bool.and_eq_true] at hBB;have main : ∀ first : Bool,okAlong .any l.toArray (boxOk first c b) l.toArray.size t (Array.replicate l.toArray.size false) ->
   wpOps P l.toArray Q (Region.linearise.go .any l.toArray l.toArray.size t (Array.replicate l.toArray.size false) []) a { w with drawn:=w.drawn + 1 }:=by
  intro first hok
  have hW:=h (if first then w.heap.size else w.heap.size + k) (by split <;> omega) { w' : World // Fr (fun _=>False) w w' } (fun u=>u.1) ⟨⟨w,Fr.refl _ _⟩⟩ (fun u=>u.2);have hL:=lex_of_box (first:=first) (md:=.any) (ops:=l.toArray) hcb hce hbe hwc hwb rfl (fun w' hw'=>⟨⟨w',hw'⟩,rfl⟩) l 0 a (by simp) hW;refine wpOps_of_B (C:=BoxC first w c b e k (if first then w.heap.size else w.heap.size + k) c0 c1 T) (Ok:=boxOk first c b) (Q:=fun a'=>∀ w',Fr (fun _=>False) w w'->At w' (if first then w.heap.size else w.heap.size + k) c1 T->Q .normal a' w') ?_ _ t _ a _ (Closed.start _ _) ?_ hok ?_
  ·intro listed a' w' hcl hrd hC hq;refine hq w' hC.fr (hC.a1 ?_);exact hcl.all_listed hlow hrd e (by simpa using hin.2.2)
  ·have h0 : ∀ j,bit (Array.replicate l.toArray.size false) j = false:=by
    intro j; unfold bit;simp only [Array.getD_eq_getD_getElem?,Array.getElem?_replicate];split <;> simp
   refine ⟨⟨rfl,rfl,rfl,Nat.le_refl _,fun _ _ _=>rfl⟩,?_,fun _ _=>rfl,?_,?_,?_⟩
   ·cases first
    ·simp only [Bool.false_eq_true,if_false]; intro h1; rw [h0] at h1; cases h1
    ·simp only [if_true]; intro h1; rw [h0] at h1; cases h1
   ·intro _ h1; rw [h0] at h1; cases h1
   ·intro h1; rw [h0] at h1; cases h1
   ·intro h1; rw [h0] at h1; cases h1
  ·have:=wpAnyB_lex (md:=.any) (P:=P) (C:=BoxC first w c b e k (if first then w.heap.size else w.heap.size + k) c0 c1 T) (Ok:=boxOk first c b) hBB.1 l.toArray.toList 0 (Array.replicate l.toArray.size false) a (by simp) (by simpa using hBB.2) hL
   simpa using this
 rcases either (md:=.any) (ops:=l.toArray) c b hcb l.toArray.size t (Array.replicate l.toArray.size false) (by simpa using hin.1) (by simpa using hin.2.1) with h1 | h1
 ·exact main true (by unfold boxOk; simpa using h1)
 ·exact main false (by unfold boxOk; simpa using h1)
end
end
section
open Go.RowKit
section
variable {own : Own} {z : Nat} {w : World} {L : ZLay} {P : PSt}
theorem prepareRemove_list (h : ZAt own z w L P) (hk : P.kind = 0) {i : Nat} {l : WLay} {t : PThread} (hl : L.wks[i]? = some l) (ht : P.ts[i]? = some t) :
  Calls Tryz.prog 126 #[.pointer (some ⟨L.s,0,none⟩),.pointer (some ⟨l.b,0,none⟩)] w fun e w'=>e = .returned (.tuple #[]) /\
   ZAt own z w' L ((P.setM (P.prepareRemove t.work).1).setT i { t with work:=(P.prepareRemove t.work).2 })/\FrZ own z w w':=by
 have hE : Hid (P.prepareRemove t.work = (P.mem.pend t.work.stand (P.mem.sideFor t.work.stand t.work.key) (P.leadsFrom t.work.ahead t.work.key),{ t.work with tsrc:=t.work.stand,tside:=P.mem.sideFor t.work.stand t.work.key })):=by
  show _ = _; simp only [PSt.prepareRemove,if_pos hk]
 have H:=(mkH (ZAt own z w L P) <|h);have HL:=(mkH (L.wks[i]? = some l) <|hl);have Ht:=(mkH (P.ts[i]? = some t) <|ht);clear h hl ht
 go_enter Tryz.func126,Tryz.ntmps126
 go_wp2_with fail;refine wp_region_box 14 15 16 4 [.int .i64 0,.int .i64 0] [.int .i64 t.work.stand,.int .i64 (b2i (P.mem.sideFor t.work.stand t.work.key))] 113 (by kernel_rfl) (by kernel_rfl) (by kernel_rfl) (by decide) (by decide) (by decide) (by decide) (by kernel_rfl) (by kernel_rfl) ?_;intro addr hge U W hU hW;have hau : ∀ u o,(W u).cell? ⟨L.s,o,none⟩ = (P.head L)[o]?:=fun u=>((H.out).calm (hW u)).hd.cell
 have hlu : ∀ u o,(W u).cell? ⟨l.b,o,none⟩ = (t.cells i l)[o]?:=fun u=>(((H.out).calm (hW u)).wk i l t HL.out Ht.out).at_.cell
 simp only [PSt.head] at hau;simp only [PThread.cells] at hlu;clear hW
 repeat (refine box_read (by decide) (by decide) (by decide) rfl ?_; go_big_quiet_step (fail); refine wpQuiet_nil ?_)
 refine box_call (lnk t.work.stand (P.mem.sideFor t.work.stand t.work.key)) rfl rfl ?_ ?_
 ·intro w' hw0;go_simp;refine (LinkFor_size (H.out.calm hw0).mem _ _).mono ?_;rintro e w'' ⟨rfl,hF,hz'⟩;exact ⟨rfl,hF,hz'⟩
 unfold lnk;go_simp;refine box_alloc (by decide) rfl rfl ?_ ?_
 ·intro w';go_simp;exact ⟨rfl,rfl⟩
 go_simp;refine box_store (by decide) (by decide) rfl rfl ?_ ?_
 ·intro w' hA;have hc:=hA.cell;have hf:=hA.frozen;have HA:=(mkH (At w' addr _ _) <|hA);clear hA hau hlu;go_simp;refine ⟨rfl,((Fr.refl _ _).set1 _ _).set1 _ _,(HA.out.set 0 (.int .i64 t.work.stand)).set 1 (.int .i64 (b2i (P.mem.sideFor t.work.stand t.work.key)))⟩
 go_simp;refine box_nil ?_;intro w1 hF1 hA1;have H1:=(mkH (ZAt own z w1 L P) <|H.out.calm hF1);have HF1:=(mkH (Fr (fun _=>False) w w1) <|hF1);have HA1:=(mkH (At w1 addr _ _) <|hA1);clear hF1 hA1 hau hlu H;obtain ⟨ha,haz,hal,hs,hsz,hsl,n1,n2⟩:=H1.out.view HL.out Ht.out;simp only [PThread.cells,PSt.head,hk] at ha hs;clear haz hsz;go_wp2_with fail;refine wp_region_calm [11] 0 rfl (by kernel_rfl) (by kernel_rfl) (by kernel_rfl) (by decide) (by kernel_rfl) (by decide) ?_;intro U W hU hW;have hlu : ∀ u o,(W u).cell? ⟨l.b,o,none⟩ = (t.cells i l)[o]?:=fun u=>(((H1.out).calm (hW u)).wk i l t HL.out Ht.out).at_.cell
 simp only [PThread.cells] at hlu;clear hW ha hs
 repeat (refine mix_read rfl rfl ?_; go_big_quiet_step (fail); refine wpQuiet_nil ?_)
 refine mix_effC (.int .i64 (P.leadsFrom t.work.ahead t.work.key)) rfl rfl rfl ?_ ?_
 ·intro w' hw';go_simp;refine (leadsFrom_calls (H1.out.calm hw') _ _).mono ?_;rintro e w'' ⟨rfl,hF⟩;exact ⟨rfl,hw'.trans hF⟩
 go_simp
 repeat (refine mix_read rfl rfl ?_; go_big_quiet_step (fail); refine wpQuiet_nil ?_)
 refine mix_nil ?_;intro w2 hw2;clear hlu;have HF2:=(mkH (Fr (fun _=>False) w w2) <|HF1.out.trans hw2);have H2:=(mkH (ZAt own z w2 L P) <|H1.out.calm hw2);have HA2:=(mkH (At w2 addr _ _) <|hw2.at HA1.out (fun h=>h));clear hw2 H1 HF1 HA1;have hc2:=HA2.out.cell;go_wp2_with fail;refine (pend_calls H2.out HL.out Ht.out t.work.stand (P.mem.sideFor t.work.stand t.work.key) (P.leadsFrom t.work.ahead t.work.key)).mono ?_;rintro e w3 ⟨rfl,hZ,hF⟩;have H3:=(mkH (ZAt own z w3 L _) <|hZ);have HF3:=(mkH (FrZ own z w w3) <|FrZ.trans (Fr.mono HF2.out (fun _ _ h=>h.elim)) (Ext.refl _ _) hF);clear hZ hF hc2;go_wp2;refine bodyPost_ret (results_none rfl _ _ _) rfl ?_;rw [hE.out];exact ⟨rfl,H3.out,HF3.out⟩
theorem prepareRemove_tree (h : ZAt own z w L P) (hk : P.kind = 1) {i : Nat} {l : WLay} {t : PThread} (hl : L.wks[i]? = some l) (ht : P.ts[i]? = some t) :
  Calls Tryz.prog 126 #[.pointer (some ⟨L.s,0,none⟩),.pointer (some ⟨l.b,0,none⟩)] w fun e w'=>e = .returned (.tuple #[]) /\
   ZAt own z w' L ((P.setM (P.prepareRemove t.work).1).setT i { t with work:=(P.prepareRemove t.work).2 })/\FrZ own z w w':=by
 have hE : Hid (P.prepareRemove t.work = (P.mem.pend t.work.above (P.mem.sideFor t.work.above t.work.key) (P.mem.leadsTo t.work.stand (!P.mem.sideFor t.work.stand t.work.key)),{ t.work with tsrc:=t.work.above,tside:=P.mem.sideFor t.work.above t.work.key })):=by
  show _ = _; simp only [PSt.prepareRemove,if_neg (show ¬ P.kind = 0 by omega)]
 have H:=(mkH (ZAt own z w L P) <|h);have HL:=(mkH (L.wks[i]? = some l) <|hl);have Ht:=(mkH (P.ts[i]? = some t) <|ht);clear h hl ht
 go_enter Tryz.func126,Tryz.ntmps126
 go_wp2_with fail;refine wp_region_box 14 15 16 4 [.int .i64 0,.int .i64 0] [.int .i64 t.work.stand,.int .i64 (b2i (P.mem.sideFor t.work.stand t.work.key))] 113 (by kernel_rfl) (by kernel_rfl) (by kernel_rfl) (by decide) (by decide) (by decide) (by decide) (by kernel_rfl) (by kernel_rfl) ?_;intro addr hge U W hU hW;have hau : ∀ u o,(W u).cell? ⟨L.s,o,none⟩ = (P.head L)[o]?:=fun u=>((H.out).calm (hW u)).hd.cell
 have hlu : ∀ u o,(W u).cell? ⟨l.b,o,none⟩ = (t.cells i l)[o]?:=fun u=>(((H.out).calm (hW u)).wk i l t HL.out Ht.out).at_.cell
 simp only [PSt.head] at hau;simp only [PThread.cells] at hlu;clear hW
 repeat (refine box_read (by decide) (by decide) (by decide) rfl ?_; go_big_quiet_step (fail); refine wpQuiet_nil ?_)
 refine box_call (lnk t.work.stand (P.mem.sideFor t.work.stand t.work.key)) rfl rfl ?_ ?_
 ·intro w' hw0;go_simp;refine (LinkFor_size (H.out.calm hw0).mem _ _).mono ?_;rintro e w'' ⟨rfl,hF,hz'⟩;exact ⟨rfl,hF,hz'⟩
 unfold lnk;go_simp;refine box_alloc (by decide) rfl rfl ?_ ?_
 ·intro w';go_simp;exact ⟨rfl,rfl⟩
 go_simp;refine box_store (by decide) (by decide) rfl rfl ?_ ?_
 ·intro w' hA;have hc:=hA.cell;have hf:=hA.frozen;have HA:=(mkH (At w' addr _ _) <|hA);clear hA hau hlu;go_simp;refine ⟨rfl,((Fr.refl _ _).set1 _ _).set1 _ _,(HA.out.set 0 (.int .i64 t.work.stand)).set 1 (.int .i64 (b2i (P.mem.sideFor t.work.stand t.work.key)))⟩
 go_simp;refine box_nil ?_;intro w1 hF1 hA1;have H1:=(mkH (ZAt own z w1 L P) <|H.out.calm hF1);have HF1:=(mkH (Fr (fun _=>False) w w1) <|hF1);have HA1:=(mkH (At w1 addr _ _) <|hA1);clear hF1 hA1 hau hlu H;obtain ⟨ha,haz,hal,hs,hsz,hsl,n1,n2⟩:=H1.out.view HL.out Ht.out;simp only [PThread.cells,PSt.head,hk] at ha hs;clear haz hsz;have hc1:=HA1.out.cell;go_wp2_with fail;refine wp_region_calm [5,6] 1 rfl (by kernel_rfl) (by kernel_rfl) (by kernel_rfl) (by decide) (by kernel_rfl) (by decide) ?_;intro U W hU hW;have hau : ∀ u o,(W u).cell? ⟨L.s,o,none⟩ = (P.head L)[o]?:=fun u=>((H1.out).calm (hW u)).hd.cell
 have hbu : ∀ u o,(W u).cell? ⟨addr,o,none⟩ = _:=fun u=>((hW u).at HA1.out (fun h=>h)).cell
 simp only [PSt.head] at hau;clear hW ha hs hc1
 repeat (refine mix_read rfl rfl ?_; go_big_quiet_step (fail); refine wpQuiet_nil ?_)
 refine mix_effC (lnk t.work.stand (!P.mem.sideFor t.work.stand t.work.key)) rfl rfl rfl ?_ ?_
 ·intro w' hw';go_simp;refine (Other_calls t.work.stand (P.mem.sideFor t.work.stand t.work.key) w').mono ?_;rintro e w'' ⟨rfl,hF⟩;exact ⟨rfl,hw'.trans hF⟩
 go_simp;refine mix_effC (.int .i64 (P.mem.leadsTo t.work.stand (!P.mem.sideFor t.work.stand t.work.key))) rfl rfl rfl ?_ ?_
 ·intro w' hw';go_simp;refine (LeadsTo_calls (H1.out.calm hw').mem t.work.stand (!P.mem.sideFor t.work.stand t.work.key)).mono ?_;rintro e w'' ⟨rfl,hF⟩;exact ⟨rfl,hw'.trans hF⟩
 go_simp
 repeat (refine mix_read rfl rfl ?_; go_big_quiet_step (fail); refine wpQuiet_nil ?_)
 refine mix_nil ?_;intro w2 hw2;have H2:=(mkH (ZAt own z w2 L P) <|H1.out.calm hw2);have HF2:=(mkH (Fr (fun _=>False) w w2) <|HF1.out.trans hw2);clear hw2 hau hbu H1 HF1 HA1;obtain ⟨st,hst⟩ : ∃ st,Hid (st = P.mem.leadsTo t.work.stand (!P.mem.sideFor t.work.stand t.work.key)):=⟨_,rfl⟩;rw [<- hst.out];go_wp2_with fail;refine wp_region_box 14 15 16 4 [.int .i64 0,.int .i64 0] [.int .i64 t.work.above,.int .i64 (b2i (P.mem.sideFor t.work.above t.work.key))] 113 (by kernel_rfl) (by kernel_rfl) (by kernel_rfl) (by decide) (by decide) (by decide) (by decide) (by kernel_rfl) (by kernel_rfl) ?_;intro addr2 hge2 U W hU hW;have hau : ∀ u o,(W u).cell? ⟨L.s,o,none⟩ = (P.head L)[o]?:=fun u=>((H2.out).calm (hW u)).hd.cell
 have hlu : ∀ u o,(W u).cell? ⟨l.b,o,none⟩ = (t.cells i l)[o]?:=fun u=>(((H2.out).calm (hW u)).wk i l t HL.out Ht.out).at_.cell
 simp only [PSt.head] at hau;simp only [PThread.cells] at hlu;clear hW
 repeat (refine box_read (by decide) (by decide) (by decide) rfl ?_; go_big_quiet_step (fail); refine wpQuiet_nil ?_)
 refine box_call (lnk t.work.above (P.mem.sideFor t.work.above t.work.key)) rfl rfl ?_ ?_
 ·intro w' hw0;go_simp;refine (LinkFor_size (H2.out.calm hw0).mem _ _).mono ?_;rintro e w'' ⟨rfl,hF,hz'⟩;exact ⟨rfl,hF,hz'⟩
 unfold lnk;go_simp;refine box_alloc (by decide) rfl rfl ?_ ?_
 ·intro w';go_simp;exact ⟨rfl,rfl⟩
 go_simp;refine box_store (by decide) (by decide) rfl rfl ?_ ?_
 ·intro w' hA;have hc:=hA.cell;have hf:=hA.frozen;have HA:=(mkH (At w' addr2 _ _) <|hA);clear hA hau hlu;go_simp;refine ⟨rfl,((Fr.refl _ _).set1 _ _).set1 _ _,(HA.out.set 0 (.int .i64 t.work.above)).set 1 (.int .i64 (b2i (P.mem.sideFor t.work.above t.work.key)))⟩
 go_simp;refine box_nil ?_;intro w4 hF4 hA4;have H4:=(mkH (ZAt own z w4 L P) <|H2.out.calm hF4);have HF4:=(mkH (Fr (fun _=>False) w w4) <|HF2.out.trans hF4);have hc2:=hA4.cell;clear hF4 hA4 hau hlu H2 HF2;go_wp2_with fail;refine (pend_calls H4.out HL.out Ht.out t.work.above (P.mem.sideFor t.work.above t.work.key) st).mono ?_;rintro e w3 ⟨rfl,hZ,hF⟩;have H3:=(mkH (ZAt own z w3 L _) <|hZ);have HF3:=(mkH (FrZ own z w w3) <|FrZ.trans (Fr.mono HF4.out (fun _ _ h=>h.elim)) (Ext.refl _ _) hF);clear hZ hF hc2;go_wp2;refine bodyPost_end (results_none rfl _ _ _) rfl ?_;rw [hE.out,<- hst.out];exact ⟨rfl,H3.out,HF3.out⟩
theorem prepareRemove_calls (h : ZAt own z w L P) (hk : P.kind = 0\/P.kind = 1) {i : Nat} {l : WLay} {t : PThread} (hl : L.wks[i]? = some l) (ht : P.ts[i]? = some t) :
  Calls Tryz.prog 126 #[.pointer (some ⟨L.s,0,none⟩),.pointer (some ⟨l.b,0,none⟩)] w fun e w'=>e = .returned (.tuple #[]) /\
   ZAt own z w' L ((P.setM (P.prepareRemove t.work).1).setT i { t with work:=(P.prepareRemove t.work).2 })/\FrZ own z w w':=by
 rcases hk with e | e
 ·exact prepareRemove_list h e hl ht
 ·exact prepareRemove_tree h e hl ht
end
end
end Go.Proofs.YtfccelbmacjifabGreat
