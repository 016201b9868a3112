import Derived.Test.YtfccelbmacjifabGreatP0
import Derived.Test.YtfccelbmacjifabGreatP6
import Derived.Test.YtfccelbmacjifabGreatP11
set_option linter.unusedSimpArgs false
set_option maxRecDepth 100000
set_option maxHeartbeats 4000000
namespace Go.Proofs.YtfccelbmacjifabGreat
section
section
variable {P : Program} {ops : Array Oper} {md : Region.Mode} {C : Array Bool->World->Prop} {c : Nat} {K : Nat->Array Bool->Act->Prop}
def wpAnyT (P : Program) (md : Region.Mode) (ops : Array Oper) (C : Array Bool->World->Prop) (c : Nat) (K : Nat->Array Bool->Act->Prop) : Nat->Array Bool->Act->Prop
 | 0,_,_=>False
 | fuel + 1,listed,a=>Region.ready md ops listed≠[]/\∀ i ∈ Region.ready md ops listed,if i = c then K fuel listed a else lOp P ops md C i (wpAnyT P md ops C c K fuel (listed.setIfInBounds i true)) a
theorem wpOps_of_T {Q' : Exit->Act->World->Prop} (hK : ∀ fuel listed a w t,Closed md ops listed->c ∈ Region.ready md ops listed->C listed w->K fuel listed a->wpOps P ops Q' (c :: Region.linearise.go md ops fuel t (listed.setIfInBounds c true) []) a w) :
  ∀ (fuel t : Nat) (listed : Array Bool) (a : Act) (w : World),Closed md ops listed->C listed w->wpAnyT P md ops C c K fuel listed a->wpOps P ops Q' (Region.linearise.go md ops fuel t listed []) a w
 | 0,_,_,_,_,_,_,h=>h.elim
 | fuel + 1,t,listed,a,w,hc,hw,h=>by
  obtain ⟨h₀,h₁⟩:=h;simp only [Region.linearise.go]
  change wpOps P ops Q' (match (Region.ready md ops listed)[t % (Region.ready md ops listed).length]? with
   | some i=>Region.linearise.go md ops fuel (t / (Region.ready md ops listed).length) (listed.setIfInBounds i true) [i]
   | none=>[].reverse) a w
  cases hi : (Region.ready md ops listed)[t % (Region.ready md ops listed).length]? with
  | none =>
   exfalso;apply h₀;cases hr : Region.ready md ops listed with
   | nil=>rfl
   | cons x xs =>
    rw [hr] at hi;have hlt : t % (x :: xs).length < (x :: xs).length:=Nat.mod_lt _ (by simp);simp at hi;simp at hlt;omega
  | some i =>
   have hmem:=List.mem_of_getElem? hi;simp only [];rw [linearise_go_acc,List.reverse_singleton,List.singleton_append];have h2:=h₁ i hmem;by_cases hic : i = c
   ·rw [if_pos hic] at h2;subst hic;exact hK fuel listed a w _ hc hmem hw h2
   ·rw [if_neg hic] at h2;rw [wpOps_cons];exact wpOp_of_lOp hc hmem hw (fun a' w' hw' h'=>wpOps_of_T hK fuel _ _ a' w' (hc.set hmem) hw' h') h2
theorem wpAnyT_first {i : Nat} {oi : Oper} {v : Value} (hi : ops[i]? = some oi) (hsel : ∀ (j : Nat) (o : Oper) cs b,ops[j]? = some o->o.op≠.select cs b) (hic : i≠c)
  (hcw : ∀ listed,Closed md ops listed->c ∈ Region.ready md ops listed->i ∈ Region.ready md ops listed->False) :
  ∀ (fuel : Nat) (listed : Array Bool) (a : Act),Closed md ops listed ->
   (∀ j oj,ops[j]? = some oj->j≠i->listed.getD j true = false->(∀ e ∈ oj.after,Region.binds md e = true->e.on≠i)->oi.apart ops oj = true) ->
   i ∈ Region.ready md ops listed->YieldsL P ops md C i oi v a ->
   wpAnyT P md ops C c K fuel (listed.setIfInBounds i true) (a.put oi.dst v)->wpAnyT P md ops C c K (fuel + 1) listed a:=by
 intro fuel
 induction fuel with
 | zero=>intro listed a _ _ _ _ H; exact H.elim
 | succ fuel ih =>
  intro listed a hcl hfree hr hy H;refine ⟨fun h=>(by rw [h] at hr; cases hr),fun j hj=>?_⟩;by_cases hjc : j = c
  ·exact (hcw listed hcl (hjc ▸ hj) hr).elim
  ·rw [if_neg hjc];by_cases hji : j = i
   ·subst hji; exact hy.lOp hi H
   ·have h1:=H.2 j (ready_mono hj hji);rw [if_neg hjc] at h1;obtain ⟨hjun,oj,hoj,hall⟩:=mem_ready.1 hj;have hnot : ∀ e ∈ oj.after,Region.binds md e = true->e.on≠i:=fun e he hb heq=>by
     have h1:=hall e he hb;have h0:=(mem_ready.1 hr).1;rw [heq] at h1;rcases Nat.lt_or_ge i listed.size with h' | h'
     ·simp [h'] at h0 h1; rw [h0] at h1; cases h1
     ·simp [Array.getElem?_eq_none h'] at h1
    have h2:=lOp_put hoj (hfree j oj hoj hji hjun hnot) (fun cs b=>hsel i oi cs b hi) (fun cs b=>hsel j oj cs b hoj) hy h1;have hfree' : ∀ k ok,ops[k]? = some ok->k≠i->(listed.setIfInBounds j true).getD k true = false ->
      (∀ e ∈ ok.after,Region.binds md e = true->e.on≠i)->oi.apart ops ok = true:=fun k ok hk hki hun hno=>by
     refine hfree k ok hk hki ?_ hno;by_cases hjk : j = k
     ·subst hjk; exact hjun
     ·rw [getD_set_ne true hjk] at hun; exact hun
    refine lOp_mono (fun a' h3=>ih (listed.setIfInBounds j true) a' (hcl.set hj) hfree' (ready_mono hr (Ne.symm hji)) h3.1 ?_) h2;rw [Array.setIfInBounds_comm _ _ hji];exact h3.2
def listTo : Nat->Nat->Array Bool->Array Bool
 | 0,_,L=>L
 | n + 1,k,L=>listTo n (k + 1) (L.setIfInBounds k true)
def wpLexT (P : Program) (ops : Array Oper) (md : Region.Mode) (C : Array Bool->World->Prop) (T : List Oper->Act->Prop) : Nat->Nat->List Oper->Act->Prop
 | 0,_,l,a=>T l a
 | _ + 1,_,[],_=>False
 | n + 1,k,o :: rest,a=>∃ v,YieldsL P ops md C k o v a/\wpLexT P ops md C T n (k + 1) rest (a.put o.dst v)
def lateCovB (md : Region.Mode) (ops : Array Oper) (c : Nat) : Bool:=(List.range c).all fun i=>(List.range (c + 1)).any fun j=>decide (i < j) && waitsB md ops j i
theorem lateCov_spec (h : lateCovB md ops c = true) {listed : Array Bool} (hcl : Closed md ops listed) (hc : c ∈ Region.ready md ops listed) : ∀ d i,c - i = d->i < c->bit listed i = true:=by
 intro d
 induction d using Nat.strongRecOn with
 | _ d ih =>
  intro i hd hic;unfold lateCovB at h;rw [List.all_eq_true] at h;have h1:=h i (List.mem_range.2 hic);rw [List.any_eq_true] at h1;obtain ⟨j,hj,h2⟩:=h1;rw [List.mem_range] at hj;simp only [Bool.and_eq_true,decide_eq_true_eq] at h2;by_cases hjc : j = c
  ·subst hjc; exact bit_waits_ready h2.2 hc
  ·exact bit_waits hcl h2.2 (ih (c - j) (by omega) j rfl (by omega))
theorem wpAnyT_lex (hs : Region.noSelect ops = true) (hcov : lateCovB md ops c = true) (hcs : c < ops.size) {T : List Oper->Act->Prop} {L0 : Array Bool} : ∀ (n : Nat) (l : List Oper) (k : Nat) (listed : Array Bool) (a : Act),(∀ j,l[j]? = ops[k + j]?)->k + n = c->Closed md ops listed->listTo n k listed = L0 ->
  (∀ l' a',l'.length + n = l.length->T l' a'->Closed md ops L0->(∀ j,l'[j]? = ops[c + j]?)->wpAnyT P md ops C c K l'.length L0 a') ->
  Region.lexFrom md ops l.length k listed = true->wpLexT P ops md C T n k l a->wpAnyT P md ops C c K l.length listed a
 | 0,l,k,listed,a,hl,hk,hcl,hL,hT,hB,h=>by
  simp only [listTo] at hL;subst hL;have : k = c:=by omega
  subst this;exact hT l a (by omega) h hcl hl
 | n + 1,[],_,_,_,_,_,_,_,_,_,h=>h.elim
 | n + 1,o :: l,k,listed,a,hl,hk,hcl,hL,hT,hB,h=>by
  have h0 : ops[k]? = some o:=by simpa using (hl 0).symm
  have hksz : k < ops.size:=(Array.getElem?_eq_some_iff.1 h0).1;simp only [List.length_cons,Region.lexFrom,Bool.and_eq_true] at hB;obtain ⟨⟨hr,hf⟩,hB'⟩:=hB;have hr' : k ∈ Region.ready md ops listed:=by simpa using hr
  obtain ⟨v,hy,hK⟩:=h;refine wpAnyT_first h0 (Region.noSelect_spec hs) (by omega) ?_ l.length listed a hcl (Region.free_spec h0 hf) hr' hy
   (wpAnyT_lex hs hcov hcs n l (k + 1) _ _ (fun j=>by have:=hl (j + 1); simpa [Nat.add_assoc,Nat.add_comm 1 j] using this) (by omega) (hcl.set hr') hL (fun l' a' hn=>hT l' a' (by simp; omega)) hB' hK)
  intro listed' hcl' hc' hk';have h1:=lateCov_spec hcov hcl' hc' _ k rfl (by omega);rw [bit_ready hcl' hk' hksz] at h1;cases h1
def lateB (ops : Array Oper) (c b e : Nat) (L : Array Bool) : Bool :=
 (Region.ready .any ops L == [c,b]) && (Region.ready .any ops (L.setIfInBounds b true) == [c]) && (Region.ready .any ops (L.setIfInBounds c true) == [b]) &&
 (Region.ready .any ops ((L.setIfInBounds c true).setIfInBounds b true) == [e]) && (Region.ready .any ops ((L.setIfInBounds b true).setIfInBounds c true) == [e]) && !bit L b
def LateC (b : Nat) (w1 w2 : World) (listed : Array Bool) (w : World) : Prop:=w = if bit listed b then w2 else w1
def wpLate (P : Program) (ops : Array Oper) (S : World->Prop) (T : List Oper->Act->Prop) : Nat->List Oper->Act->Prop
 | 0,l,a=>T l a
 | _ + 1,[],_=>False
 | n + 1,o :: rest,a=>plainOp o.op = true/\if Region.wanted o (yielded ops a.tmps) then o.quiet P a S (wpLate P ops S T n rest) else wpLate P ops S T n rest (a.put o.dst undef)
theorem late_end {S : World->Prop} {T : List Oper->Act->Prop} {l : List Oper} {a : Act} (h : T l a) : wpLate P ops S T 0 l a:=h
theorem late_read {S : World->Prop} {T : List Oper->Act->Prop} {n : Nat} {o : Oper} {rest : List Oper} {a : Act} (hp : plainOp o.op = true) (h : wpQuiet P ops S (fun a'=>wpLate P ops S T n rest a') [o] a) : wpLate P ops S T (n + 1) (o :: rest) a:=by
 refine ⟨hp,?_⟩;unfold wpQuiet at h;split
 ·next hw=>rw [if_pos hw] at h; exact h
 ·next hw=>rw [if_neg hw] at h; exact h
theorem lex_of_late {S : World->Prop} {T : List Oper->Act->Prop} {c b : Nat} {w1 w2 : World} (hS : S w1/\S w2) (hcb : c<=b) : ∀ (n : Nat) (l : List Oper) (k : Nat) (a : Act),k + n = c->wpLate P ops S T n l a->wpLexT P ops md (LateC b w1 w2) T n k l a
 | 0,_,_,_,_,h=>h
 | n + 1,[],_,_,_,h=>h.elim
 | n + 1,o :: rest,k,a,hk,h=>by
  obtain ⟨hp,h⟩:=h;have hb : k≠b:=by omega
  have same : ∀ listed w',LateC b w1 w2 listed w'->LateC b w1 w2 (listed.setIfInBounds k true) w':=by
   intro listed w' h;unfold LateC at *;rw [bit_set_ne hb];exact h
  split at h
  ·next hw =>
   obtain ⟨v,hv,hK⟩:=h;refine ⟨v,.inl ⟨hw,?_⟩,lex_of_late hS hcb n rest (k + 1) _ (by omega) hK⟩;intro listed w' _ _ hC;have hq:=hv w' (by unfold LateC at hC; rw [hC]; split <;> first | exact hS.2 | exact hS.1);unfold Oper.quietAt at hq;generalize hres : (execOp a.eval o).run P w' = r at *;cases r with
   | ok n w1 =>
    cases n <;> simp only [Oper.quietUpon] at hq <;> simp only [runsTo]
    case value u=>exact ⟨hq.2,by rw [hq.1]; exact same _ _ hC⟩
    case skip=>exact ⟨hq.2,by rw [hq.1]; exact same _ _ hC⟩
    case enter f args=>exact absurd hres (plain_noEnter hp)
   | halt x w1=>simp only [Oper.quietUpon] at hq
  ·next hw =>
   refine ⟨undef,.inr ⟨by simpa using hw,rfl,?_⟩,lex_of_late hS hcb n rest (k + 1) _ (by omega) h⟩;intro listed w' _ _ hC;exact same _ _ hC
theorem go_single {L : Array Bool} {i : Nat} (h : Region.ready md ops L = [i]) (fuel t : Nat) : Region.linearise.go md ops (fuel + 1) t L [] = i :: Region.linearise.go md ops fuel t (L.setIfInBounds i true) []:=by
 show (match (Region.ready md ops L)[t % (Region.ready md ops L).length]? with
   | some i=>Region.linearise.go md ops fuel (t / (Region.ready md ops L).length) (L.setIfInBounds i true) [i]
   | none=>[].reverse) = _
 rw [h];have h1 : t % [i].length = 0:=by simp [Nat.mod_one]
 have h2 : t / [i].length = t:=by simp
 rw [h1,h2];show Region.linearise.go md ops fuel t (L.setIfInBounds i true) [i] = _;rw [linearise_go_acc,List.reverse_singleton,List.singleton_append]
theorem wpOps_three (Q : Exit->Act->World->Prop) {c b e : Nat} {oc ob oe : Oper} (hc : ops[c]? = some oc) (hb : ops[b]? = some ob) (he : ops[e]? = some oe) {a : Act} {w : World} :
  (wpOps P ops Q [c,b,e] a w = wpList P ops Q [oc,ob,oe] a w)/\(wpOps P ops Q [c,e] a w = wpList P ops Q [oc,oe] a w):=by
 constructor
 ·simp only [wpOps,hc,hb,he,wpList]
 ·simp only [wpOps,hc,he,wpList]
def lateEnd (P : Program) (ops : Array Oper) (Q : Exit->Act->World->Prop) (w1 w2 : World) (ptr : Value) : List Oper->Act->Prop
 | [oc,ob,oe],a=>ob.guard = none/\(execOp a.eval ob).run P w1 = .ok (.value ptr) w2/\wpList P ops Q [oc,ob,oe] a w1/\wpList P ops Q [oc,oe] (a.put ob.dst ptr) w2
 | _,_=>False
theorem wp_region_late {id : Nat} {Q : Exit->Act->World->Prop} {a : Act} {w : World} {l : List Oper} (c : Nat) (c0 : List Value) (T : TypeId) (hm : P.follows .mixedOrders = true) (hB : Region.lexB .any l.toArray = true)
  (hcov : lateCovB .any l.toArray c = true) (hlen : l.length = c + 3) (hlate : lateB l.toArray c (c + 1) (c + 2) (listTo c 0 (Array.replicate l.toArray.size false)) = true)
  (h : ∀ (U : Type) (W : U->World),Nonempty U->(∀ u,W u = w.drew\/W u = w.drew.alloc (.cells c0.toArray T)) ->
   wpLate P l.toArray (fun w'=>∃ u,w' = W u) (lateEnd P l.toArray Q w.drew (w.drew.alloc (.cells c0.toArray T)) (.pointer (some ⟨w.heap.size,0,none⟩))) c l a) : (Code.region id l.toArray true).wp P Q a w:=by
 refine wp_region_draw fun t=>?_
 simp only [Region.schedule,hm,Bool.true_or,if_true];have hBB:=hB;simp only [Region.lexB,Bool.and_eq_true] at hBB;have hW:=h Bool (fun u=>if u then w.drew else w.drew.alloc (.cells c0.toArray T)) ⟨true⟩ (fun u=>by cases u <;> simp);have hL:=lex_of_late (c:=c) (md:=.any) (b:=c + 1) (w1:=w.drew) (w2:=w.drew.alloc (.cells c0.toArray T)) ⟨⟨true,by simp⟩,⟨false,by simp⟩⟩ (by omega) c l 0 a (by omega) hW;have hsz : l.toArray.size = c + 3:=by simpa using hlen
 unfold lateB at hlate;simp only [Bool.and_eq_true,beq_iff_eq,Bool.not_eq_true'] at hlate;obtain ⟨⟨⟨⟨⟨r1,r2⟩,r3⟩,r4⟩,r5⟩,r6⟩:=hlate
 let K : Nat->Array Bool->Act->Prop:=fun fuel listed a=>∀ t w',LateC (c + 1) w.drew (w.drew.alloc (.cells c0.toArray T)) listed w'->wpOps P l.toArray Q (c :: Region.linearise.go .any l.toArray fuel t (listed.setIfInBounds c true) []) a w'
 have hA:=wpAnyT_lex (P:=P) (C:=LateC (c + 1) w.drew (w.drew.alloc (.cells c0.toArray T))) (K:=K)
  hBB.1 hcov (by omega) c l 0 (Array.replicate l.toArray.size false) a (by simp) (by omega) (Closed.start _ _) rfl ?_ (by simpa using hBB.2) hL
 ·have:=wpOps_of_T (C:=LateC (c + 1) w.drew (w.drew.alloc (.cells c0.toArray T))) (K:=K) (c:=c) (fun fuel listed a w' t _ _ hC hK=>hK t w' hC) l.toArray.size t (Array.replicate l.toArray.size false) a w.drew (Closed.start _ _) (by
   unfold LateC bit;simp only [Array.getD_eq_getD_getElem?,Array.getElem?_replicate];split <;> simp) (by simpa using hA)
  exact this
 ·intro l' a' hlen' hT hcl hl';have hl3 : l'.length = 3:=by omega
  obtain ⟨oc,ob,oe,rfl⟩ : ∃ oc ob oe,l' = [oc,ob,oe]:=by
   cases l' with
   | nil=>simp at hl3
   | cons x l1=>cases l1 with
    | nil=>simp at hl3
    | cons y l2=>cases l2 with
     | nil=>simp at hl3
     | cons u l3=>cases l3 with
      | nil=>exact ⟨_,_,_,rfl⟩
      | cons _ _=>simp at hl3
  ·clear hL hW hB hBB hcov;obtain ⟨hg,hrun,h1,h2⟩:=hT;have ho0 : l.toArray[c]? = some oc:=by simpa using (hl' 0).symm
   have ho1 : l.toArray[c + 1]? = some ob:=by simpa using (hl' 1).symm
   have ho2 : l.toArray[c + 2]? = some oe:=by simpa using (hl' 2).symm
   generalize listTo c 0 (Array.replicate l.toArray.size false) = L at *;have hLs:=hcl.size;have bL1 : bit (L.setIfInBounds (c + 1) true) (c + 1) = true:=bit_set_same (by omega);show wpAnyT P .any l.toArray _ c _ 3 L a';unfold wpAnyT;refine ⟨by rw [r1]; simp,?_⟩;intro i hi;rw [r1] at hi;simp only [List.mem_cons,List.not_mem_nil,or_false] at hi;by_cases hic : i = c
   ·rw [if_pos hic];intro t w' hC;unfold LateC at hC;rw [r6] at hC;simp only [Bool.false_eq_true,if_false] at hC;subst hC;have hgo : Region.linearise.go .any l.toArray 2 t (L.setIfInBounds c true) [] = [c + 1,c + 2]:=by
     rw [go_single r3,go_single r4]; rfl
    rw [hgo,(wpOps_three Q ho0 ho1 ho2).1];exact h1
   ·rw [if_neg hic];have hib : i = c + 1:=by omega
    subst hib;refine YieldsL.lOp (v:=.pointer (some ⟨w.heap.size,0,none⟩)) ho1 (.inl ⟨by simp [Region.wanted,hg],?_⟩) ?_
    ·intro listed w' hcl' hrd hC;have hb0:=bit_ready hcl' hrd (by omega);unfold LateC at hC;rw [hb0] at hC;simp only [Bool.false_eq_true,if_false] at hC;subst hC;rw [hrun];refine ⟨rfl,?_⟩;unfold LateC;rw [bit_set_same (by rw [hcl'.size]; omega)]
     rfl
    ·unfold wpAnyT;refine ⟨by rw [r2]; simp,?_⟩;intro i hi;rw [r2] at hi;simp only [List.mem_cons,List.not_mem_nil,or_false] at hi;subst hi;rw [if_pos rfl];intro t w' hC;unfold LateC at hC;rw [bL1] at hC;simp only [if_true] at hC;subst hC;have hgo : Region.linearise.go .any l.toArray 1 t ((L.setIfInBounds (i + 1) true).setIfInBounds i true) [] = [i + 2]:=by
      rw [go_single r5]; rfl
     rw [hgo,(wpOps_three Q ho0 ho1 ho2).2];exact h2
end
end
section
open Go.RowKit
def LinksAt (w : World) (a : Option Addr) (ls : List (Int × Bool)) : Prop:=∀ (i : Nat) p,ls[i]? = some p->∃ g,a = some ⟨g,0,none⟩/\w.cell? ⟨g,i * 2,none⟩ = some (.int .i64 p.1)/\w.cell? ⟨g,i * 2 + 1,none⟩ = some (.int .i64 (b2i p.2))
theorem LinksAt.calm {w w' : World} {a : Option Addr} {ls : List (Int × Bool)} (h : LinksAt w a ls) (hf : Fr (fun _=>False) w w') : LinksAt w' a ls:=by
 intro i p hp;obtain ⟨g,h1,h2,h3⟩:=h i p hp;exact ⟨g,h1,hf.keepCell h2,hf.keepCell h3⟩
theorem link_get {ls : List (Int × Bool)} {i : Nat} {p : Int × Bool} (h : ls[i]? = some p) : (ls.flatMap linkCells)[i * 2]? = some (.int .i64 p.1)/\(ls.flatMap linkCells)[i * 2 + 1]? = some (.int .i64 (b2i p.2)):=by
 induction ls generalizing i with
 | nil=>simp at h
 | cons x r ih =>
  cases i with
  | zero=>simp at h; subst h; exact ⟨rfl,rfl⟩
  | succ i =>
   have hh:=ih (i:=i) (by simpa using h);have e : (x :: r).flatMap linkCells = linkCells x ++ r.flatMap linkCells:=rfl;have hl : (linkCells x).length = 2:=rfl;rw [e,List.getElem?_append_right (by rw [hl]; omega),List.getElem?_append_right (by rw [hl]; omega),hl];rw [show (i + 1) * 2 - 2 = i * 2 by omega,show (i + 1) * 2 + 1 - 2 = i * 2 + 1 by omega];exact hh
theorem LinksAt.ofRow {own : Own} {z : Nat} {w : World} {tag : Tag} {T : TypeId} {a : Option Addr} {c n : Nat} {ls : List (Int × Bool)} (h : Row own z w tag T 2 (.slice a n c) ls.length (ls.flatMap linkCells)) : LinksAt w a ls:=by
 intro i p hp;have hn : ls.length≠0:=by intro e; rw [List.eq_nil_of_length_eq_zero e] at hp; simp at hp
 obtain ⟨g,c',hv,_⟩:=ownsRow_shape h.row hn;have ho:=h.row;rw [hv] at ho;obtain ⟨h1,h2⟩:=link_get hp;simp at hv;exact ⟨g,hv.1,ownsRow_cell ho h1,ownsRow_cell ho h2⟩
theorem linksWithin_few (P : PSt) (n lo hi : Int) : (P.linksWithin n lo hi).length<=2:=by
 unfold PSt.linksWithin;split
 ·split <;> simp
 ·rw [List.length_append];have h1 : ∀ (b : Bool) (x : Int × Bool),(if b = true then [x] else ([] : List (Int × Bool))).length<=1:=by intro b x; split <;> simp
  have:=h1 ((P.mem.node n).links == 2 && decide (lo < (P.mem.node n).key)) (n,false)
  have:=h1 ((P.mem.node n).links == 2 && decide ((P.mem.node n).key<=hi)) (n,true)
  omega
section
variable {own : Own} {z : Nat} {w : World} {L : ZLay} {P : PSt}
theorem ZAt.wkLinks (h : ZAt own z w L P) {i : Nat} {l : WLay} {t : PThread} (hl : L.wks[i]? = some l) (ht : P.ts[i]? = some t) {w1 : World} {v : Value} {LW : List (Int × Bool)} (hO : OwnLinks w w1 v LW) :
  ∃ own' L' l',ZAt own' z (w1.setCell ⟨l.b,16,none⟩ v) L' (P.setT i { t with work:={ t.work with links:=LW } })/\L'.wks[i]? = some l'/\l'.b = l.b/\Ext own own' w/\FrZ own z w (w1.setCell ⟨l.b,16,none⟩ v)/\L'.s = L.s/\L'.ml = L.ml/\L'.wks.map (·.b) = L.wks.map (·.b):=by
 have hWk:=h.wk i l t hl ht;have hE : Ext own (fun k=>if v.ownBlock = some k then ⟨z,.tr i 2⟩ else own k) w:=by
  intro k hk;show (if _ then _ else _) = _;rw [if_neg];intro e
  have:=hO.new k e
  omega
 have hF : Fr (fun k=>k = l.b) w (w1.setCell ⟨l.b,16,none⟩ v):=Fr.set1 (Fr.mono hO.fr (fun _ _ h=>h.elim)) _ _;have hFT : FrT own z (fun t=>t = .thread i\/∃ k,t = .tr i k) w (w1.setCell ⟨l.b,16,none⟩ v):=FrT.one hF hWk.tg (.inl rfl);have hn : ∀ tag,tag≠Tag.thread i->∀ k,own k = ⟨z,tag⟩->¬ k = l.b:=by
  rintro tag hne k hk rfl; rw [hWk.tg] at hk; simp at hk; exact hne hk.symm
 have hA1:=hO.fr.at hWk.at_ (fun h=>h);refine ⟨_,_,{ l with links:=v },h.wkSet (l':={ l with links:=v }) (t':={ t with work:={ t.work with links:=LW } }) hl rfl hFT hE ⟨hA1.set 16 _,(hE _ hWk.at_.lt).trans hWk.tg,hWk.spans.fr hF hE (hn _ (by simp)),hWk.made.fr hF hE (hn _ (by simp)),⟨ownsRow_setOther hO.row (a:=⟨l.b,16,none⟩) (hA1.ne_row hO.row (by decide)) v,fun k hk=>by show (if _ then _ else _) = _; rw [if_pos hk]⟩,hWk.noted.fr hF hE (hn _ (by simp)),hWk.alists.fr hF hE (hn _ (by simp)),hWk.llists.fr hF hE (hn _ (by simp))⟩,(show (L.wks.set i _)[i]? = some _ from by rw [List.getElem?_set_self (List.getElem?_eq_some_iff.1 hl).1]),rfl,hE,hFT.zone,rfl,rfl,?_⟩;show (L.wks.set i _).map (·.b) = _;rw [List.map_set];exact setL_same (by simp [hl])
theorem OwnLists.lists {w1 : World} {v : Value} {ll : List (List (Int × Int))} (hO : OwnLists w w1 v ll) (own : Own) (z : Nat) : ∃ own',Ext own own' w/\ListsAt own' z w1 v ll:=by
 refine ⟨fun k=>if w.heap.size<=k then ⟨z,.lists⟩ else own k,fun k hk=>by show (if _ then _ else _) = _; rw [if_neg (by omega)],hO.nil,?_⟩;obtain ⟨ins,h1,h2,h3⟩:=hO.top;exact ⟨ins,h1,⟨h2,fun k hk=>by show (if _ then _ else _) = _; rw [if_pos (hO.new k hk)]⟩,fun j u l hu hl=>⟨(h3 j u l hu hl).1,fun k hk=>by show (if _ then _ else _) = _; rw [if_pos ((h3 j u l hu hl).2 k hk)]⟩⟩
theorem scan_calls (h : ZAt own z w L P) (hk : P.kind = 0\/P.kind = 1) {i : Nat} {l : WLay} {t : PThread} (hl : L.wks[i]? = some l) (ht : P.ts[i]? = some t) (n : Int) (hlk : t.work.links.length<=2 ^ 39 + 1) (h16 : t.work.spans.length<=16) (hn : t.work.noted.length<=2 ^ 39) :
  Calls Tryz.prog 95 #[.pointer (some ⟨L.s,0,none⟩),.pointer (some ⟨l.b,0,none⟩),.int .i64 n] w fun e w'=>e = .returned (.tuple #[])/\ZGoes own z w L (P.setT i { t with work:=P.scan t.work n }) w':=by
 obtain ⟨iP,hiP,hzP,hsP,hbP⟩:=info_parts Tryz.infoPr;obtain ⟨iL,hiL,hzL,hsL,hbL⟩:=info_parts Tryz.infoLk;obtain ⟨ha,haz,hal,hs,hsz,hsl,n1,n2⟩:=h.view hl ht;simp only [PThread.cells] at ha;simp only [PSt.head] at hs;obtain ⟨sa,sc,hsv,_⟩:=(h.wk i l t hl ht).spans.shape;have HPS : Hid (PairsAt w sa t.work.spans):=PairsAt.ofRow (by have:=(h.wk i l t hl ht).spans; rw [hsv] at this; exact this);rw [hsv] at ha;have H:=(mkH (ZAt own z w L P) <|h);have HK:=(mkH (P.kind = 0\/P.kind = 1) <|hk);have HL:=(mkH (L.wks[i]? = some l) <|hl);have Ht:=(mkH (P.ts[i]? = some t) <|ht);clear h hk hl ht hsz haz
 go_enter Tryz.func95,Tryz.ntmps95
 go_wp2_with fail;refine (leastLo_calls w sa sc t.work.spans (by omega) HPS.out).mono ?_;rintro e w1 ⟨rfl,rfl⟩;go_wp2_with fail;refine (greatestHi_calls w1 sa sc t.work.spans (by omega) HPS.out).mono ?_;rintro e w1 ⟨rfl,rfl⟩;go_wp2_with fail;refine (Node_calls H.out.mem n).mono ?_;rintro e w2 ⟨rfl,hF⟩;have H2:=(mkH (ZAt own z w2 L P) <|H.out.calm hF);have HF2:=(mkH (Fr _ w1 w2) <|hF);clear hF H HPS ha hal hs hsl;have HE : Hid (∀ N LW,(if (!((P.mem.node n).links == 2) && isIn (P.mem.node n).key (leastLo t.work.spans) (greatestHi t.work.spans)) = true then t.work.noted ++ [((P.mem.node n).key,(P.mem.node n).value)] else t.work.noted) = N->P.linksWithin n (leastLo t.work.spans) (greatestHi t.work.spans) ++ t.work.links.drop 1 = LW ->
   P.scan t.work n = if LW.length = 0 then ({ t.work with noted:=N,links:=LW } : PWork).conclude (answerOf t.work.spans N t.work.time) else { t.work with noted:=N,links:=LW }):=by
  rintro N LW rfl rfl; rfl
 generalize hlo : leastLo t.work.spans = lo at HE ⊢;generalize hhi : greatestHi t.work.spans = hi at HE ⊢;clear hlo hhi;generalize P.mem.node n = x at HE ⊢;unfold nodeVal;go_wp2_with fail;generalize hw3 : World.alloc w2 _ = w3;have hF3 : Fr (fun _=>False) w2 w3:=by subst hw3; exact (Fr.refl _ _).alloc _
 have HX3 : Hid (At w3 w2.heap.size (nodeCells x) 131):=by subst hw3; exact At.new _ _ _
 clear hw3;refine (IsInner_calls x w3).mono ?_;rintro e w5 ⟨rfl,hF4⟩;have H4:=(mkH (ZAt own z w5 L P) <|H2.out.calm (hF3.trans hF4));have HF4:=(mkH (Fr (fun _=>False) w1 w5) <|HF2.out.trans (hF3.trans hF4));have HX4:=(mkH (At w5 w2.heap.size _ _) <|hF4.at HX3.out (fun h=>h));clear H2 HF2 hF3 HX3 hF4;obtain ⟨ha,haz,hal,hs,hsz,hsl,_,_⟩:=H4.out.view HL.out Ht.out;have hxc:=HX4.out.cell;simp only [nodeCells] at hxc;simp only [PThread.cells] at ha;simp only [PSt.head] at hs;clear hsz haz;cases hin : (x.links == 2)
 focus
  go_wp2_with fail;refine (isWithin_calls _ _ _ _).mono ?_;rintro e w6 ⟨rfl,hw⟩;have hw:=hw.symm;subst hw;cases hwi : isIn x.key lo hi
 rotate_left
 focus
  obtain ⟨N,hN⟩ : ∃ N,N = t.work.noted ++ [(x.key,x.value)]:=⟨_,rfl⟩;have HN : Hid ((if (!(x.links == 2) && isIn x.key lo hi) = true then t.work.noted ++ [(x.key,x.value)] else t.work.noted) = N):=by show _ = _; rw [hin,hwi,hN]; rfl
  have HNl : Hid (N.length<=2 ^ 39 + 1):=by show _<=_; rw [hN,List.length_append,List.length_singleton]; omega
  go_wp2_with fail;have hrow:=(H4.out.wk i l t HL.out Ht.out).noted;obtain ⟨na,nc,hnv,_⟩:=hrow.shape;have Hrow1:=hrow.row;rw [hnv] at Hrow1;have hrow1 : (w5.drew.alloc (.cells #[.int .i64 x.key,.int .i64 x.value] 95)).ownsRow 0 95 2 (.slice na t.work.noted.length nc) t.work.noted.length (t.work.noted.flatMap pairCells):=ownsRow_alloc (World.ownsRow.drew Hrow1) _;obtain ⟨g,gcap,w6,hown,hg,hge,hrun⟩:=push_runs (P:=Tryz.prog) (w5.drew.alloc (.cells #[.int .i64 x.key,.int .i64 x.value] 95)) 47 47 0 95 iP (.agg #[.int .i64 0,.int .i64 0]) 2 16 Tryz.underlying47 hiP hzP hsP hbP rfl (by decide) _ _ _ hrow1
   w5.heap.size [.int .i64 x.key,.int .i64 x.value] rfl 95 (At.newAt rfl _ _) (by simp [Value.oneCell']) (by unfold maxLen; omega) (by omega) (by simp)
  have HT5:=(mkH (At w5 l.b _ _) <|(H4.out.wk i l t HL.out Ht.out).at_);have M2 : Hid ((Value.slice na t.work.noted.length nc).ownBlock≠some l.b):=HT5.out.ne_row Hrow1 (by decide);have M3 : Hid ((Value.slice na t.work.noted.length nc).ownBlock≠some w2.heap.size):=HX4.out.ne_row Hrow1 (by decide);have HT6:=(mkH (At w6 l.b _ _) <|((HT5.out.drew).alloc _).grown hg M2.out);have HX6:=(mkH (At w6 w2.heap.size _ _) <|((HX4.out.drew).alloc _).grown hg M3.out);have HRun:=(mkH (∀ (o : Oper) (a : Act) (s x : Operand),_) <|hrun);have HOwn:=(mkH (w6.ownsRow 0 _ _ _ _ _) <|hown);have HG:=(mkH (World.grownBy _ w6 _) <|hg);have HGe:=(mkH (_\/_) <|hge);have Hrow:=(show Hid _ from hrow);have Hnv:=(mkH (l.noted = .slice na t.work.noted.length nc) <|hnv);clear hrun hown hg hge hrow1 Hrow1 ha hxc hs hal hsl hrow hnv;refine wp_region_mix [11,12,16] (fun k=>match k with | 0=>w5.drew | 1=>w5.drew.alloc (.cells #[.int .i64 x.key,.int .i64 x.value] 95) | 2=>w6 | _=>w6.setCell ⟨l.b,17,none⟩ (.slice (some ⟨g,0,none⟩) (t.work.noted.length + 1) gcap)) 2 rfl (by kernel_rfl) (by kernel_rfl) (by kernel_rfl) (by decide) (by kernel_rfl) (by kernel_rfl) (by decide) rfl ?_;intro W hW;have ha : ∀ u o,(W u).cell? ⟨l.b,o,none⟩ = (t.cells i l)[o]?:=by
   intro u;obtain ⟨k,hk,he⟩:=hW u;rw [he];rcases (show k = 0\/k = 1\/k = 2 by omega) with rfl | rfl | rfl
   ·exact HT5.out.drew.cell
   ·exact (HT5.out.drew.alloc _).cell
   ·exact HT6.out.cell
  have hx : ∀ u o,(W u).cell? ⟨w2.heap.size,o,none⟩ = (nodeCells x)[o]?:=by
   intro u;obtain ⟨k,hk,he⟩:=hW u;rw [he];rcases (show k = 0\/k = 1\/k = 2 by omega) with rfl | rfl | rfl
   ·exact HX4.out.drew.cell
   ·exact (HX4.out.drew.alloc _).cell
   ·exact HX6.out.cell
  simp only [PThread.cells,Hnv.out] at ha;simp only [nodeCells] at hx;clear hW;have hc6:=HT6.out.cell;have hz6:=HT6.out.frozen;simp only [PThread.cells] at hc6
  repeat (refine mix_read rfl rfl ?_; go_big_quiet_step (fail); refine wpQuiet_nil ?_)
  refine mix_eff (v:=.slice (some ⟨w5.heap.size,0,none⟩) 1 1) rfl rfl rfl ?_ ?_
  ·go_simp;exact ⟨rfl,rfl⟩
  refine mix_eff rfl rfl rfl (HRun.out _ _ _ _ rfl rfl rfl rfl) ?_;go_simp
  repeat (refine mix_read rfl rfl ?_; go_big_quiet_step (fail); refine wpQuiet_nil ?_)
  refine mix_eff (v:=undef) rfl rfl rfl ?_ ?_
  ·go_simp;exact ⟨rfl,rfl⟩
  refine mix_nil ?_;go_simp;have hne : l.b≠g:=by
   have:=HT6.out.ne_row HOwn.out (by decide)
   intro e; apply this; simp [Value.ownBlock,e]
  have hF7 : Fr (fun k=>k = l.b\/l.noted.ownBlock = some k) w5 (w6.setCell ⟨l.b,17,none⟩ (.slice (some ⟨g,0,none⟩) (t.work.noted.length + 1) gcap)) :=
   Fr.setIn (.inl rfl) ((((Fr.refl _ _).drew).alloc _).grown HG.out (fun k hk=>.inl (.inr (by rw [Hnv.out]; exact hk)))) _ _
  have hE7 : Ext own (own.put g z (.tr i 3)) w5:=Ext.put' (Ext.refl _ _) (by
   rcases HGe.out with h | h
   ·exact .inl (Hrow.out.tg g (by rw [Hnv.out]; exact h))
   ·exact .inr (by simp at h; omega))
  have hWk:=H4.out.wk i l t HL.out Ht.out;have hFT : FrT own z (fun t=>t = .thread i\/∃ k,t = .tr i k) w5 (w6.setCell ⟨l.b,17,none⟩ (.slice (some ⟨g,0,none⟩) (t.work.noted.length + 1) gcap)):=FrT.of hF7 (by
   rintro k (rfl | hk)
   ·rw [hWk.tg]; exact ⟨rfl,.inl rfl⟩
   ·rw [hWk.noted.tg k hk]; exact ⟨rfl,.inr ⟨3,rfl⟩⟩)
  have hnS : ∀ tag,tag≠Tag.thread i->tag≠Tag.tr i 3->∀ k,own k = ⟨z,tag⟩->¬ (k = l.b\/l.noted.ownBlock = some k):=by
   rintro tag h1 h2 k hk (rfl | hk')
   ·rw [hWk.tg] at hk; simp at hk; exact h1 hk.symm
   ·rw [hWk.noted.tg k hk'] at hk; simp at hk; exact h2 hk.symm
  have hZ7:=H4.out.wkSet (l':={ l with noted:=.slice (some ⟨g,0,none⟩) (t.work.noted.length + 1) gcap }) (t':={ t with work:={ t.work with noted:=N } }) HL.out rfl hFT hE7 ⟨HT6.out.set 17 _,by rw [hE7 _ HT5.out.lt]; exact hWk.tg,hWk.spans.fr hF7 hE7 (hnS _ (by simp) (by simp)),hWk.made.fr hF7 hE7 (hnS _ (by simp) (by simp)),hWk.links.fr hF7 hE7 (hnS _ (by simp) (by simp)),⟨by
    have:=ownsRow_setOther HOwn.out (a:=⟨l.b,17,none⟩) (by simp [Value.ownBlock]; exact fun e=>hne e.symm) (.slice (some ⟨g,0,none⟩) (t.work.noted.length + 1) gcap)
    simpa [hN,pairCells] using this,by intro k hk; simp [Value.ownBlock] at hk; subst hk; exact Own.put_same _ _ _ _⟩,hWk.alists.fr hF7 hE7 (hnS _ (by simp) (by simp)),hWk.llists.fr hF7 hE7 (hnS _ (by simp) (by simp))⟩
  have hFz:=hFT.zone;generalize w6.setCell ⟨l.b,17,none⟩ (.slice (some ⟨g,0,none⟩) (t.work.noted.length + 1) gcap) = wq at *;obtain ⟨ownq,Lq,lq,HQ,HLq,Hbq,HG⟩ : ∃ ownq Lq lq,Hid (ZAt ownq z wq Lq (P.setT i { t with work:={ t.work with noted:=N } }))/\Hid (Lq.wks[i]? = some lq)/\Hid (lq.b = l.b)/\Hid (Ext own ownq w1/\FrZ own z w1 wq/\Lq.s = L.s/\Lq.ml = L.ml/\Lq.wks.map (·.b) = L.wks.map (·.b)):=by
   refine ⟨_,_,{ l with noted:=.slice (some ⟨g,0,none⟩) (t.work.noted.length + 1) gcap },hZ7,(show (L.wks.set i _)[i]? = some _ from by rw [List.getElem?_set_self (List.getElem?_eq_some_iff.1 HL.out).1]),rfl,fun k hk=>hE7 k (Nat.lt_of_lt_of_le hk HF4.out.size),FrZ.trans (Fr.mono HF4.out (fun _ _ h=>h.elim)) (Ext.refl _ _) hFz,rfl,rfl,?_⟩;show (L.wks.set i _).map (·.b) = _;rw [List.map_set];exact setL_same (by simp [HL.out])
  clear hZ7 hFz hFT hF7 hE7 hWk hnS hne hN ha hx hc6 hz6 HT5 HT6 HX4 HX6 M2 M3 HRun HOwn HGe Hrow Hnv H4 HF4;go_wp2_with fail
 rotate_left
 iterate 2
  focus
   obtain ⟨N,hN⟩ : ∃ N,N = t.work.noted:=⟨_,rfl⟩;have HN : Hid ((if (!(x.links == 2) && isIn x.key lo hi) = true then t.work.noted ++ [(x.key,x.value)] else t.work.noted) = N):=by show _ = _; first | (rw [hin,hwi,hN]; rfl) | (rw [hin,hN]; rfl)
   have HNl : Hid (N.length<=2 ^ 39 + 1):=by show _<=_; rw [hN]; omega
   clear ha hs hxc hal hsl;go_wp2_with fail;generalize w5 = wq at *;obtain ⟨ownq,Lq,lq,HQ,HLq,Hbq,HG⟩ : ∃ ownq Lq lq,Hid (ZAt ownq z wq Lq (P.setT i { t with work:={ t.work with noted:=N } }))/\Hid (Lq.wks[i]? = some lq)/\Hid (lq.b = l.b)/\Hid (Ext own ownq w1/\FrZ own z w1 wq/\Lq.s = L.s/\Lq.ml = L.ml/\Lq.wks.map (·.b) = L.wks.map (·.b)):=by
    refine ⟨own,L,l,?_,HL.out,rfl,Ext.refl _ _,Fr.mono HF4.out (fun _ _ h=>h.elim),rfl,rfl,rfl⟩;show ZAt _ _ _ _ (P.setT i _);have : P.setT i { t with work:={ t.work with noted:=N } } = P:=by
     subst hN;show { P with ts:=P.ts.set i t } = P;rw [setL_same Ht.out]
    rw [this]; exact H4.out
   clear hN HX4 H4 HF4
  rotate_left
 all_goals
  have hlw:=linksWithin_calls HQ.out HK.out n lo hi;rw [HG.out.2.2.1] at hlw;refine hlw.mono ?_;clear hlw;rintro e w6 ⟨v,rfl,hO⟩;obtain ⟨LW0,hW0⟩ : ∃ LW0,LW0 = P.linksWithin n lo hi:=⟨_,rfl⟩;have HLf : Hid (LW0.length<=2):=by show _<=_; rw [hW0]; exact linksWithin_few _ _ _ _
  have HO0 : Hid (OwnLinks wq w6 v LW0):=by show OwnLinks _ _ _ _; rw [hW0]; exact hO
  have HE0:=(show Hid _ from HE.out N (LW0 ++ t.work.links.drop 1) HN.out (by rw [hW0]));clear hO HE HN hW0;have Ht6 : Hid ((P.setT i { t with work:={ t.work with noted:=N } }).ts[i]? = some { t with work:={ t.work with noted:=N } }):=by
   show (P.ts.set i _)[i]? = _;rw [List.getElem?_set_self (List.getElem?_eq_some_iff.1 Ht.out).1]
  obtain ⟨ka,kc,hkv,_⟩:=(HQ.out.wk i lq _ HLq.out Ht6.out).links.shape;have HKV:=(mkH (lq.links = .slice ka t.work.links.length kc) <|hkv);have HKA : Hid (LinksAt wq ka t.work.links):=LinksAt.ofRow (by have:=(HQ.out.wk i lq _ HLq.out Ht6.out).links; rw [hkv] at this; exact this);clear hkv;obtain ⟨T,hT⟩ : ∃ T,T = t.work.links.length - 1:=⟨_,rfl⟩;have HT:=(mkH (T = t.work.links.length - 1) <|hT);clear hT;go_wp2_with fail
  go_loopw [9,10] (fun v j wr=>∃ k : Nat,k<=T/\j = .int .i64 (k + 1)/\Hid (OwnLinks wq wr v (LW0 ++ (t.work.links.drop 1).take k))) (fun _ j _=>T + 2 - (intOf j).toNat)
  case atStart=>exact ⟨0,Nat.zero_le _,rfl,by show OwnLinks _ _ _ _; rw [List.take_zero,List.append_nil]; exact HO0.out⟩
  case round =>
   clear HO0;obtain ⟨k,hk,rfl,HO⟩:=hrel;have H6:=(mkH (ZAt ownq z wr Lq _) <|HQ.out.calm HO.out.fr);obtain ⟨ha,haz,hal,_,_,_,_,_⟩:=H6.out.view HLq.out Ht6.out;simp only [PThread.cells,HKV.out] at ha;rw [Hbq.out] at ha haz hal;obtain ⟨X,hX⟩ : ∃ X,X = LW0 ++ (t.work.links.drop 1).take k:=⟨_,rfl⟩;rw [<- hX] at HO;have HX:=(mkH (X = LW0 ++ (t.work.links.drop 1).take k) <|hX);clear hX;obtain ⟨va,vc,rfl⟩:=ownsShape HO.out.row;by_cases hlt : k < T
   ·have hx : Hid (t.work.links[k + 1]? = some (t.work.links[k + 1]'(by have:=HT.out; omega))):=List.getElem?_eq_getElem _;generalize t.work.links[k + 1]'(by have:=HT.out; omega) = y at hx;obtain ⟨g,rfl,c0,c1⟩:=(HKA.out.calm HO.out.fr) (k + 1) y hx.out;have HLL : Hid (X.length<=2 ^ 40):=by
     show _<=_
     have:=HLf.out
     rw [HX.out,List.length_append,List.length_take,List.length_drop];omega
    have HN : Hid (LW0 ++ (t.work.links.drop 1).take (k + 1) = X ++ [y]):=by
     show _ = _;rw [HX.out,List.take_add_one,List.getElem?_drop,Nat.add_comm 1 k,hx.out,List.append_assoc]; rfl
    have hlt':=(show k + 1 < t.work.links.length by have:=HT.out; omega);clear H6 haz;go_wp2_with (at_builtin; refine wpList_push _ rfl _ _ 114 rfl 0 113 iL _ 2 16 Tryz.underlying114 hiL hzL hsL hbL rfl (by decide) _ _ _ rfl (ownsRow_alloc HO.out.row _) wr.heap.size [.int .i64 y.1,.int .i64 (b2i y.2)] rfl rfl 113 (At.newAt (by simp) _ _) (by simp [Value.oneCell']) (by have:=HLL.out; unfold maxLen; omega) (by have:=HLL.out; omega) (by simp) ?_);intro g2 cap2 w8 hown hgr hge;have HO8 : Hid (OwnLinks wq w8 (.slice (some ⟨g2,0,none⟩) (X.length + 1) cap2) (LW0 ++ (t.work.links.drop 1).take (k + 1))):=by
     show OwnLinks _ _ _ _;rw [HN.out];refine ⟨by simpa [linkCells] using hown,?_,Fr.grown (HO.out.fr.alloc _) hgr (fun k hk=>.inr (HO.out.new k hk))⟩;intro q hq;simp [Value.ownBlock] at hq;subst hq
     have:=HO.out.fr.size
     rcases hge with h | h
     ·exact HO.out.new _ h
     ·first | omega | (simp at h; omega)
    clear hown hgr hge ha hal c0 c1 HO;go_wp2
    go_roundw
    case rel=>exact ⟨k + 1,by omega,by go_num,HO8⟩
    case measure=>simp [intOf]; omega
   ·have hlt':=(show ¬ k + 1 < t.work.links.length by have:=HT.out; omega);obtain ⟨LW,hW⟩ : ∃ LW,LW = LW0 ++ t.work.links.drop 1:=⟨_,rfl⟩;have hke : X = LW:=by
     rw [hW,HX.out,List.take_of_length_le (by rw [List.length_drop]; have:=HT.out; omega)]
    subst hke;have HE2:=HE0;rw [<- hW] at HE2;clear hW HE0 HX;obtain ⟨own7,L7,l7,hZ7,hL7,hb7,hE7,hF7,hs7,hm7,hw7⟩:=HQ.out.wkLinks HLq.out Ht6.out HO.out;rw [Hbq.out] at hZ7 hF7;have hEz : Ext own own7 w1:=Ext.trans HG.out.1 hE7 HG.out.2.1.size;have hFz:=FrZ.trans HG.out.2.1 HG.out.1 hF7;have hPP : ∀ k : PWork,(((P.setT i { t with work:={ t.work with noted:=N } }).setT i { t with work:=k }) = P.setT i { t with work:=k }):=by
     intro k; show ({ P with ts:=(P.ts.set i _).set i _ } : PSt) = { P with ts:=P.ts.set i _ }; rw [List.set_set]
    have HZ7:=(mkH (ZAt own7 z _ _ _) <|hZ7);have HE7:=(mkH (Ext own own7 w1) <|hEz);have HF7:=(mkH (FrZ own z w1 _) <|hFz);have HPP:=(mkH (∀ k : PWork,_) <|hPP);have HLs:=(mkH (L7.s = L.s/\L7.ml = L.ml/\L7.wks.map (·.b) = L.wks.map (·.b)) <|⟨hs7.trans HG.out.2.2.1,hm7.trans HG.out.2.2.2.1,hw7.trans HG.out.2.2.2.2⟩);have HL7:=(mkH (L7.wks[i]? = some l7) <|hL7);have HB7:=(mkH (l7.b = l.b) <|hb7.trans Hbq.out);rw [HPP.out] at HZ7;clear HQ hZ7 hE7 hEz hFz hF7 hPP H6 hs7 hm7 hw7 hL7 hb7 HPP HLq HG HKA;generalize X = LW at *;by_cases hle : LW.length = 0
    rotate_left
    ·have hq : ((LW.length : Int) == 0) = false:=by simp; intro e; exact hle (by rw [e]; rfl)
     have HLE:=(mkH (¬ LW.length = 0) <|hle);clear hle;rw [if_neg HLE.out] at HE2;generalize hql : LW.length = q at HO HZ7 HF7 hq HLE ⊢;clear hql;go_wp2
     go_end0
     rw [HE2.out];exact ⟨rfl,own7,L7,HZ7.out,HE7.out,HF7.out,HLs.out⟩
    ·have hLl:=hle;clear hle;rw [hLl] at HO HE2 HZ7 HF7 ⊢;go_wp2_with fail;clear ha haz hal HO;generalize wr.setCell ⟨l.b,16,none⟩ (.slice va 0 vc) = w7 at *;have Ht7 : Hid ((P.setT i { t with work:={ t.work with noted:=N,links:=LW } }).ts[i]? = some { t with work:={ t.work with noted:=N,links:=LW } }):=by
      show (P.ts.set i _)[i]? = _;rw [List.getElem?_set_self (List.getElem?_eq_some_iff.1 Ht.out).1]
     have hWk:=HZ7.out.wk i l7 _ HL7.out Ht7.out;obtain ⟨pa,pc,hpv,_⟩:=hWk.spans.shape;obtain ⟨qa,qc,hqv,_⟩:=hWk.noted.shape;have HPS : Hid (PairsAt w7 pa t.work.spans):=PairsAt.ofRow (by have:=hWk.spans; rw [hpv] at this; exact this);have HPN : Hid (PairsAt w7 qa N):=PairsAt.ofRow (by have:=hWk.noted; rw [hqv] at this; exact this);have HT7:=(mkH (At w7 l.b _ _) <|by rw [<- HB7.out]; exact hWk.at_);have HV:=(mkH (l7.spans = .slice pa t.work.spans.length pc/\l7.noted = .slice qa N.length qc) <|⟨hpv,hqv⟩);clear hWk hpv hqv;refine wp_region_late 15 [.int .i64 0,.bool false,.int .i64 0,.int .i64 0,.slice none 0 0] 69 rfl (by kernel_rfl) (by kernel_rfl) rfl (by kernel_rfl) ?_;intro U W hU hW;have ha : ∀ u o,(W u).cell? ⟨l.b,o,none⟩ = (({ t with work:={ t.work with noted:=N,links:=LW } } : PThread).cells i l7)[o]?:=by
      intro u;rcases hW u with h | h <;> rw [h]
      ·exact HT7.out.drew.cell
      ·exact (HT7.out.drew.alloc _).cell
     simp only [PThread.cells,HV.out.1,HV.out.2] at ha;clear hW
     repeat (refine late_read rfl ?_; go_big_quiet_step (fail); refine wpQuiet_nil ?_)
     refine late_end ⟨rfl,?_,?_,?_⟩
     ·go_simp
     all_goals clear ha
     ·go_wp2_with fail;have hd : Fr (fun _=>False) w7 w7.drew:=(Fr.refl _ _).drew;refine (answerOfScan_calls w7.drew pa pc t.work.spans h16 (HPS.out.calm hd) qa qc N (by have:=HNl.out; omega) (HPN.out.calm hd) t.work.time).mono ?_;rintro e w8 ⟨ua,un,uc,rfl,hO⟩;obtain ⟨own8,hE8,hLs8⟩:=hO.lists own7 z;have hZ8:=(HZ7.out.calm hd).fr hO.fr hE8 (fun _ _ h=>h);have HE8:=(mkH (Ext own7 own8 w7) <|hE8);have HF8:=(mkH (Fr (fun _=>False) w7 w8) <|hd.trans hO.fr);have HS8:=(mkH (ListsAt own8 z w8 _ _) <|hLs8);have HZ8:=(mkH (ZAt own8 z w8 L7 _) <|hZ8);clear hO hE8 hLs8 hZ8 hd;generalize answerOf t.work.spans N t.work.time = A at *;unfold ansV;go_wp2_with fail;generalize hw9 : World.alloc w8 _ = w9;have hF9 : Fr (fun _=>False) w8 w9:=by subst hw9; exact (Fr.refl _ _).alloc _
      clear hw9;have hcon:=conclude_calls (HZ8.out.calm hF9) HL7.out Ht7.out A ua un uc (HS8.out.fr hF9 (Ext.refl _ _) (fun _ _ h=>h));rw [HB7.out] at hcon;refine hcon.mono ?_;clear hcon;rintro e w10 ⟨rfl,hZ⟩;have HZ:=(mkH (ZGoes own8 z w9 L7 _ w10) <|hZ);have HF9:=(mkH (Fr _ w8 w9) <|hF9);clear hZ hF9;go_wp2
      go_end0
      rw [HE2.out,if_pos (by trivial)];refine ⟨rfl,ZGoes.trans (own1:=own8) (Ext.trans HE7.out HE8.out HF7.out.size) (FrZ.trans HF7.out HE7.out (Fr.mono (HF8.out.trans HF9.out) (fun _ _ h=>h.elim))) HLs.out.1 HLs.out.2.1 HLs.out.2.2 ?_⟩;have hPP : ∀ x y : PThread,(P.setT i x).setT i y = P.setT i y:=by
       intro x y; show ({ P with ts:=(P.ts.set i _).set i _ } : PSt) = { P with ts:=P.ts.set i _ }; rw [List.set_set]
      have hZ:=HZ.out;rw [hPP] at hZ;exact hZ
     ·have HX:=(mkH (At (w7.drew.alloc _) w7.heap.size _ _) <|At.new w7.drew [.int .i64 0,.bool false,.int .i64 0,.int .i64 0,.slice none 0 0] 69);have hd : Fr (fun _=>False) w7 (w7.drew.alloc (.cells #[.int .i64 0,.bool false,.int .i64 0,.int .i64 0,.slice none 0 0] 69)):=((Fr.refl _ _).drew).alloc _;go_wp2_with fail;refine (answerOfScan_calls _ pa pc t.work.spans h16 (HPS.out.calm hd) qa qc N (by have:=HNl.out; omega) (HPN.out.calm hd) t.work.time).mono ?_;rintro e w8 ⟨ua,un,uc,rfl,hO⟩;obtain ⟨own8,hE8,hLs8⟩:=hO.lists (own7.put w7.heap.size z (.oth 9)) z;have HOb : Hid (own8 w7.heap.size = ⟨z,.oth 9⟩):=(hE8 _ (by show _ < (w7.drew.alloc _).heap.size; simp)).trans (Own.put_same _ _ _ _);have HE8:=(mkH (Ext own7 own8 w7) <|fun k hk=>(hE8 k (Nat.lt_of_lt_of_le hk hd.size)).trans (Own.put_ne _ _ _ (by omega)));have HF8:=(mkH (Fr (fun _=>False) w7 w8) <|hd.trans hO.fr);have HS8:=(mkH (ListsAt own8 z w8 _ _) <|hLs8);have HX8:=(mkH (At w8 w7.heap.size _ _) <|hO.fr.at HX.out (fun h=>h));clear hO hE8 hLs8 hd HX;generalize answerOf t.work.spans N t.work.time = A at *;unfold ansV;have hxc:=HX8.out.cell;have hxz:=HX8.out.frozen;go_wp2_with fail;generalize hw9 : World.setCell _ ⟨w7.heap.size,4,none⟩ _ = w9;have hF9 : Fr (fun k=>k = w7.heap.size) w8 w9:=by
       subst hw9
       repeat (with_reducible first | refine Fr.set1 ?_ _ _ | exact Fr.refl _ _)
      have hF79 : Fr (fun _=>False) w7 w9:=by
       subst hw9
       repeat (with_reducible first | refine Fr.setNew (Nat.le_refl _) ?_ _ _ | exact HF8.out)
      clear hw9 hxc hxz HX8;have hcon:=conclude_calls (HZ7.out.fr hF79 HE8.out (fun _ _ h=>h)) HL7.out Ht7.out A ua un uc (HS8.out.fr hF9 (Ext.refl _ _) (fun k hk e=>by rw [e,HOb.out] at hk; simp at hk));rw [HB7.out] at hcon;refine hcon.mono ?_;clear hcon;rintro e w10 ⟨rfl,hZ⟩;have HZ:=(mkH (ZGoes own8 z w9 L7 _ w10) <|hZ);have HF9:=(mkH (Fr _ w7 w9) <|hF79);clear hZ hF9 hF79;go_wp2
      go_end0
      rw [HE2.out,if_pos (by trivial)];refine ⟨rfl,ZGoes.trans (own1:=own8) (Ext.trans HE7.out HE8.out HF7.out.size) (FrZ.trans HF7.out HE7.out (Fr.mono HF9.out (fun _ _ h=>h.elim))) HLs.out.1 HLs.out.2.1 HLs.out.2.2 ?_⟩;have hPP : ∀ x y : PThread,(P.setT i x).setT i y = P.setT i y:=by
       intro x y; show ({ P with ts:=(P.ts.set i _).set i _ } : PSt) = { P with ts:=P.ts.set i _ }; rw [List.set_set]
      have hZ:=HZ.out;rw [hPP] at hZ;exact hZ
end
end
end Go.Proofs.YtfccelbmacjifabGreat
