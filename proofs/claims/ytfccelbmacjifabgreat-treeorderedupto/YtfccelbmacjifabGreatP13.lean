import Derived.Test.YtfccelbmacjifabGreatP0
import Derived.Test.YtfccelbmacjifabGreatP12
import Derived.Deep.QuietTactic
import Derived.BigQuiet
import Derived.WalkKit
import Derived.BigRegion
set_option linter.unusedSimpArgs false
set_option maxRecDepth 100000
set_option maxHeartbeats 4000000
namespace Go.Proofs.YtfccelbmacjifabGreat
section
open Go.RowKit
structure WLay where
 b : Nat
 spans : Value
 made : Value
 links : Value
 noted : Value
 aspans : Value
 lspans : Value
def PThread.cells (t : PThread) (i : Nat) (l : WLay) : List Value :=
 [.int .i64 i,.int .i64 t.slot,.bool t.busy,
  .int .i64 t.work.kind,.int .i64 t.work.key,.int .i64 t.work.value,l.spans,.int .i64 t.work.next,.int .i64 t.work.time,.int .i64 t.work.stand,.int .i64 t.work.ahead,.int .i64 t.work.above,.int .i64 t.work.locks,
  l.made,.int .i64 t.work.tsrc,.int .i64 (b2i t.work.tside),l.links,l.noted,
  .int .i64 t.work.ans.err,.bool t.work.ans.did,.int .i64 t.work.ans.value,.int .i64 t.work.ans.stamp,l.aspans,
  .bool t.hasEnded,.int .i64 t.last.err,.bool t.last.did,.int .i64 t.last.value,.int .i64 t.last.stamp,l.lspans]
structure ZLay where
 s : Nat
 ml : MLay
 tv : Value
 wks : List WLay
 retired : Value
structure WkAt (own : Own) (z : Nat) (w : World) (i : Nat) (l : WLay) (t : PThread) : Prop where
 at_ : At w l.b (t.cells i l) 118
 tg : own l.b = ⟨z,.thread i⟩
 spans : Row own z w (.tr i 0) 81 2 l.spans t.work.spans.length (t.work.spans.flatMap pairCells)
 made : Row own z w (.tr i 1) 3 1 l.made t.work.made.length (intCells t.work.made)
 links : Row own z w (.tr i 2) 113 2 l.links t.work.links.length (t.work.links.flatMap linkCells)
 noted : Row own z w (.tr i 3) 95 2 l.noted t.work.noted.length (t.work.noted.flatMap pairCells)
 alists : ListsAt own z w l.aspans t.work.ans.spans
 llists : ListsAt own z w l.lspans t.last.spans
def wptrs (l : List WLay) : List Value:=l.map fun x=>.pointer (some ⟨x.b,0,none⟩)
def PSt.head (P : PSt) (L : ZLay) : List Value :=
 [.int .i64 P.kind,.int .i64 P.limit,.int .i64 P.clock,.pointer (some ⟨L.ml.m,0,none⟩),L.tv,.int .i64 P.sweep.made,.int .i64 P.sweep.clock,L.retired,.bool P.sweep.hasTime,.int .i64 P.sweep.time]
structure ZAt (own : Own) (z : Nat) (w : World) (L : ZLay) (P : PSt) : Prop where
 hd : At w L.s (P.head L) 109
 hown : own L.s = ⟨z,.store⟩
 mem : MAt w L.ml P.mem
 mo : own L.ml.m = ⟨z,.oth 0⟩
 no : own L.ml.nb = ⟨z,.oth 1⟩
 eo : own L.ml.eb = ⟨z,.oth 2⟩
 th : Row own z w .thl 111 1 L.tv P.ts.length (wptrs L.wks)
 wlen : L.wks.length = P.ts.length
 wk : ∀ (i : Nat) (l : WLay) (t : PThread),L.wks[i]? = some l->P.ts[i]? = some t->WkAt own z w i l t
 ret : Row own z w .gone 3 1 L.retired P.sweep.retired.length (natCells P.sweep.retired)
 few : P.ts.length<=8
section
variable {own own' : Own} {z : Nat} {w w' : World} {S : Nat->Prop}
theorem WkAt.fr {i : Nat} {l : WLay} {t : PThread} (h : WkAt own z w i l t) (hf : Fr S w w') (he : Ext own own' w) (h1 : ∀ k,own k = ⟨z,.thread i⟩->¬ S k) (h2 : ∀ k j,own k = ⟨z,.tr i j⟩->¬ S k)
  (h3 : ∀ k,own k = ⟨z,.lists⟩->¬ S k) : WkAt own' z w' i l t :=
 ⟨(at_fr h.at_ h.tg hf he h1).1,(at_fr h.at_ h.tg hf he h1).2,h.spans.fr hf he (fun k=>h2 k _),h.made.fr hf he (fun k=>h2 k _),h.links.fr hf he (fun k=>h2 k _),h.noted.fr hf he (fun k=>h2 k _),
  h.alists.fr hf he h3,h.llists.fr hf he h3⟩
variable {L : ZLay} {P : PSt}
theorem ZAt.fr (h : ZAt own z w L P) (hf : Fr S w w') (he : Ext own own' w) (hS : ∀ k,(own k).z = z->¬ S k) : ZAt own' z w' L P:=by
 have hT : ∀ tag k,own k = ⟨z,tag⟩->¬ S k:=fun tag k hk=>hS k (by rw [hk])
 have hh:=at_fr h.hd h.hown hf he (hT _);refine ⟨hh.1,hh.2,MAt.same h.mem hf (hT _ _ h.mo) (hT _ _ h.no) (hT _ _ h.eo),?_,?_,?_,h.th.fr hf he (hT _),h.wlen,fun i l t hl ht=>(h.wk i l t hl ht).fr hf he (hT _) (fun k j=>hT _ k) (hT _),h.ret.fr hf he (hT _),h.few⟩
 ·rw [he _ h.mem.hd.lt]; exact h.mo
 ·rw [he _ (ownsRow_lt0 h.mem.nodes)]; exact h.no
 ·rw [he _ (ownsRow_lt0 h.mem.ents)]; exact h.eo
theorem ZAt.calm (h : ZAt own z w L P) (hf : Fr (fun _=>False) w w') : ZAt own z w' L P:=h.fr hf (Ext.refl _ _) (fun _ _ h=>h)
theorem ZAt.memSet (h : ZAt own z w L P) {M : PMem} (hm : MAt w' L.ml M) (hf : MFr L.ml w w') : ZAt own z w' L (P.setM M)/\FrZ own z w w':=by
 have he:=Ext.refl own w;have hT : ∀ tag,tag≠Tag.oth 1->tag≠Tag.oth 2->∀ k,own k = ⟨z,tag⟩->¬ (k = L.ml.nb\/k = L.ml.eb):=by
  rintro tag h1 h2 k hk (rfl | rfl)
  ·rw [h.no] at hk; simp at hk; exact h1 hk.symm
  ·rw [h.eo] at hk; simp at hk; exact h2 hk.symm
 have hh:=at_fr h.hd h.hown hf he (hT _ (by simp) (by simp));refine ⟨⟨hh.1,hh.2,hm,h.mo,h.no,h.eo,h.th.fr hf he (hT _ (by simp) (by simp)),h.wlen,
  fun i l t hl ht=>(h.wk i l t hl ht).fr hf he (hT _ (by simp) (by simp)) (fun k j=>hT _ (by simp) (by simp) k) (hT _ (by simp) (by simp)),h.ret.fr hf he (hT _ (by simp) (by simp)),h.few⟩,?_⟩
 refine Fr.mono hf ?_;rintro k _ (rfl | rfl)
 ·rw [h.no]
 ·rw [h.eo]
theorem ZAt.wkSet (h : ZAt own z w L P) {i : Nat} {l l' : WLay} {t' : PThread} (hl : L.wks[i]? = some l) (hb : l'.b = l.b)
  (hf : FrT own z (fun t=>t = .thread i\/∃ k,t = .tr i k) w w') (he : Ext own own' w) (hx : WkAt own' z w' i l' t') :
  ZAt own' z w' { L with wks:=L.wks.set i l' } (P.setT i t'):=by
 have hn : ∀ tag : Tag,¬ (tag = .thread i\/∃ k,tag = .tr i k)->∀ k,own k = ⟨z,tag⟩->¬ ((own k).z = z/\((own k).tag = .thread i\/∃ j,(own k).tag = .tr i j)):=fun tag ht=>not_tag (A:=fun t=>t = .thread i\/∃ k,t = .tr i k) ht
 have hh:=at_fr h.hd h.hown hf he (hn _ (by simp));have hp : wptrs (L.wks.set i l') = wptrs L.wks:=by
  unfold wptrs;rw [List.map_set];apply List.ext_getElem?;intro j;rw [List.getElem?_set];split
  ·next e =>
   subst e;split
   ·simp [hl,hb]
   ·next h2=>simp at h2; simp [List.getElem?_eq_none h2]
  ·rfl
 refine ⟨hh.1,hh.2,MAt.same h.mem hf (hn _ (by simp) _ h.mo) (hn _ (by simp) _ h.no) (hn _ (by simp) _ h.eo),?_,?_,?_,?_,by simp [h.wlen,PSt.setT],?_,h.ret.fr hf he (hn _ (by simp)),by simp [PSt.setT,h.few]⟩
 ·rw [he _ h.mem.hd.lt]; exact h.mo
 ·rw [he _ (ownsRow_lt0 h.mem.nodes)]; exact h.no
 ·rw [he _ (ownsRow_lt0 h.mem.ents)]; exact h.eo
 ·simp only [hp,List.length_set,PSt.setT];exact h.th.fr hf he (hn _ (by simp))
 ·intro j l1 t1 hl1 ht1;simp only [List.getElem?_set,PSt.setT] at hl1 ht1;by_cases e : i = j
  ·subst e;rw [if_pos rfl] at hl1 ht1;split at hl1 <;> simp at hl1
   split at ht1 <;> simp at ht1
   subst hl1; subst ht1; exact hx
  ·rw [if_neg e] at hl1 ht1;exact (h.wk j l1 t1 hl1 ht1).fr hf he (hn _ (by simp; omega)) (fun k j=>hn _ (by simp; omega) k) (hn _ (by simp))
theorem setL_same {α : Type} {l : List α} {i : Nat} {x : α} (h : l[i]? = some x) : l.set i x = l:=by
 apply List.ext_getElem?;intro j;rw [List.getElem?_set];split
 ·next e =>
  subst e;split
  ·rw [h]
  ·next h2=>simp at h2; simp [List.getElem?_eq_none h2]
 ·rfl
theorem ZAt.wkCells (h : ZAt own z w L P) {i : Nat} {l : WLay} {t t' : PThread} (hl : L.wks[i]? = some l) (ht : P.ts[i]? = some t) (hf : Fr (fun k=>k = l.b) w w') (hA : At w' l.b (t'.cells i l) 118)
  (e1 : t'.work.spans = t.work.spans) (e2 : t'.work.made = t.work.made) (e3 : t'.work.links = t.work.links) (e4 : t'.work.noted = t.work.noted) (e6 : t'.work.ans.spans = t.work.ans.spans) (e7 : t'.last.spans = t.last.spans) :
  ZAt own z w' L (P.setT i t')/\FrZ own z w w':=by
 have hT:=h.wk i l t hl ht;have hF : FrT own z (fun t=>t = .thread i\/∃ k,t = .tr i k) w w':=FrT.one hf hT.tg (.inl rfl);have hn : ∀ tag,tag≠Tag.thread i->∀ k,own k = ⟨z,tag⟩->¬ k = l.b:=by
  rintro tag hne k hk rfl; rw [hT.tg] at hk; simp at hk; exact hne hk.symm
 have hE:=Ext.refl own w;have hS : ({ L with wks:=L.wks.set i l } : ZLay) = L:=by rw [setL_same hl]
 refine ⟨?_,hF.zone⟩;rw [<- hS];refine h.wkSet hl rfl hF hE (l':=l) ?_;refine ⟨hA,hT.tg,?_,?_,?_,?_,?_,?_⟩
 ·rw [e1]; exact hT.spans.fr hf hE (hn _ (by simp))
 ·rw [e2]; exact hT.made.fr hf hE (hn _ (by simp))
 ·rw [e3]; exact hT.links.fr hf hE (hn _ (by simp))
 ·rw [e4]; exact hT.noted.fr hf hE (hn _ (by simp))
 ·rw [e6]; exact hT.alists.fr hf hE (hn _ (by simp))
 ·rw [e7]; exact hT.llists.fr hf hE (hn _ (by simp))
def ZGoes (own : Own) (z : Nat) (w : World) (L : ZLay) (P' : PSt) (w' : World) : Prop :=
 ∃ own' L',ZAt own' z w' L' P'/\Ext own own' w/\FrZ own z w w'/\L'.s = L.s/\L'.ml = L.ml/\L'.wks.map (·.b) = L.wks.map (·.b)
theorem ZGoes.here {P' : PSt} (h : ZAt own z w' L P'/\FrZ own z w w') : ZGoes own z w L P' w':=⟨own,L,h.1,Ext.refl _ _,h.2,rfl,rfl,rfl⟩
theorem ZGoes.trans {w1 w2 : World} {L1 : ZLay} {P2 : PSt} {own1 : Own} (hE : Ext own own1 w) (hF : FrZ own z w w1) (hs : L1.s = L.s) (hm : L1.ml = L.ml) (ht : L1.wks.map (·.b) = L.wks.map (·.b)) (h : ZGoes own1 z w1 L1 P2 w2) : ZGoes own z w L P2 w2:=by
 obtain ⟨own2,L2,hB,hE2,hF2,e1,e2,e3⟩:=h;exact ⟨own2,L2,hB,Ext.trans hE hE2 hF.size,FrZ.trans hF hE hF2,e1.trans hs,e2.trans hm,e3.trans ht⟩
theorem ZGoes.calm {w1 : World} {P' : PSt} (hF : Fr (fun _=>False) w w1) (h : ZGoes own z w1 L P' w') : ZGoes own z w L P' w' :=
 ZGoes.trans (w1:=w1) (L1:=L) (Ext.refl _ _) (Fr.mono hF (fun _ _ h=>h.elim)) rfl rfl rfl h
theorem wks_get {L L' : ZLay} (h : L'.wks.map (·.b) = L.wks.map (·.b)) {i : Nat} {l : WLay} (hl : L.wks[i]? = some l) : ∃ l',L'.wks[i]? = some l'/\l'.b = l.b:=by
 have : (L'.wks.map (·.b))[i]? = some l.b:=by rw [h]; simp [hl]
 rw [List.getElem?_map] at this;cases h' : L'.wks[i]? with
 | none=>rw [h'] at this; simp at this
 | some l'=>rw [h'] at this; simp at this; exact ⟨l',rfl,this⟩
theorem ZAt.view (h : ZAt own z w L P) {i : Nat} {l : WLay} {t : PThread} (hl : L.wks[i]? = some l) (ht : P.ts[i]? = some t) :
  (∀ o,w.cell? ⟨l.b,o,none⟩ = (t.cells i l)[o]?)/\(∀ o,w.frozen? ⟨l.b,o,none⟩ = false)/\l.b < w.heap.size/\(∀ o,w.cell? ⟨L.s,o,none⟩ = (P.head L)[o]?)/\(∀ o,w.frozen? ⟨L.s,o,none⟩ = false)/\L.s < w.heap.size/\L.s≠l.b/\l.b≠L.s:=by
 have hT:=h.wk i l t hl ht;have n1 : L.s≠l.b:=h.hd.ne hT.at_ (by decide);exact ⟨hT.at_.cell,hT.at_.frozen,hT.at_.lt,h.hd.cell,h.hd.frozen,h.hd.lt,n1,n1.symm⟩
end
end
section
section
variable {P : Program} {ops : Array Oper} {md : Region.Mode}
structure Closed (md : Region.Mode) (ops : Array Oper) (listed : Array Bool) : Prop where
 size : listed.size = ops.size
 dep : ∀ j o,ops[j]? = some o->listed.getD j false = true->∀ e ∈ o.after,Region.binds md e = true->listed.getD e.on false = true
theorem Closed.set {listed : Array Bool} {i : Nat} (h : Closed md ops listed) (hi : i ∈ Region.ready md ops listed) : Closed md ops (listed.setIfInBounds i true):=by
 refine ⟨by simp [h.size],?_⟩;intro j o hj hl e he hb;by_cases hij : i = j
 ·subst hij;obtain ⟨_,o',ho',hall⟩:=mem_ready.1 hi;rw [hj] at ho'; cases ho';exact getD_set_true (hall e he hb)
 ·rw [getD_set_ne false hij] at hl;exact getD_set_true (h.dep j o hj hl e he hb)
theorem Closed.start (md : Region.Mode) (ops : Array Oper) : Closed md ops (Array.replicate ops.size false):=by
 refine ⟨by simp,?_⟩;intro j o _ hl;simp only [Array.getD_eq_getD_getElem?,Array.getElem?_replicate] at hl;split at hl <;> simp at hl
def runsTo (P : Program) (C' : World->Prop) (v : Value) : Result Next->Prop
 | .ok (.value u) w'=>u = v/\C' w'
 | .ok .skip w'=>v = undef/\C' w'
 | .ok (.enter f args) w'=>Calls P f args w' (fun e w''=>e = .returned v/\C' w'')
 | _=>False
variable {C : Array Bool->World->Prop}
def YieldsL (P : Program) (ops : Array Oper) (md : Region.Mode) (C : Array Bool->World->Prop) (i : Nat) (o : Oper) (v : Value) (a : Act) : Prop :=
 (Region.wanted o (yielded ops a.tmps) = true/\∀ listed w,Closed md ops listed->i ∈ Region.ready md ops listed->C listed w->runsTo P (C (listed.setIfInBounds i true)) v ((execOp a.eval o).run P w)) \/
 (Region.wanted o (yielded ops a.tmps) = false/\v = undef/\∀ listed w,Closed md ops listed->i ∈ Region.ready md ops listed->C listed w->C (listed.setIfInBounds i true) w)
theorem YieldsL.of_same {i : Nat} {o : Oper} {v : Value} {a a' : Act} (hy : YieldsL P ops md C i o v a) (he : execOp a'.eval o = execOp a.eval o)
  (hw : Region.wanted o (yielded ops a'.tmps) = Region.wanted o (yielded ops a.tmps)) : YieldsL P ops md C i o v a':=by
 unfold YieldsL at *;rw [he,hw];exact hy
def lOp (P : Program) (ops : Array Oper) (md : Region.Mode) (C : Array Bool->World->Prop) (i : Nat) (K : Act->Prop) (a : Act) : Prop :=
 match ops[i]? with
 | none=>K a
 | some o=>∃ v,YieldsL P ops md C i o v a/\K (a.put o.dst v)
theorem lOp_mono {i : Nat} {a : Act} {K K' : Act->Prop} (h : ∀ a,K a->K' a) (hh : lOp P ops md C i K a) : lOp P ops md C i K' a:=by
 unfold lOp at *;split
 ·next ho=>simp only [ho] at hh; exact h _ hh
 ·next o ho =>
  simp only [ho] at hh;obtain ⟨v,h1,h2⟩:=hh;exact ⟨v,h1,h _ h2⟩
def wpAnyL (P : Program) (md : Region.Mode) (ops : Array Oper) (C : Array Bool->World->Prop) (Q : Act->Prop) : Nat->Array Bool->Act->Prop
 | 0,listed,a=>Region.ready md ops listed = []/\Q a
 | fuel + 1,listed,a =>
  (Region.ready md ops listed = []->Q a) /\
  ∀ i ∈ Region.ready md ops listed,lOp P ops md C i (wpAnyL P md ops C Q fuel (listed.setIfInBounds i true)) a
theorem wpOp_of_lOp {i : Nat} {a : Act} {K : Act->Prop} {K' : Act->World->Prop} {Q' : Exit->Act->World->Prop} {w : World} {listed : Array Bool} (hcl : Closed md ops listed) (hi : i ∈ Region.ready md ops listed) (hC : C listed w)
  (h : ∀ a w',C (listed.setIfInBounds i true) w'->K a->K' a w') (hh : lOp P ops md C i K a) : wpOp P ops Q' i K' a w:=by
 obtain ⟨_,o,ho,_⟩:=mem_ready.1 hi;unfold lOp at hh;unfold wpOp;simp only [ho] at hh ⊢;obtain ⟨v,hy,hk⟩:=hh;rcases hy with ⟨hw,hr⟩ | ⟨hw,rfl,hr⟩
 ·rw [if_pos hw];left;have h3:=hr listed w hcl hi hC;unfold Oper.wp;generalize (execOp a.eval o).run P w = r at *;cases r with
  | ok n w' =>
   cases n <;> simp only [runsTo] at h3 <;> simp only [Oper.upon]
   case value u =>
    obtain ⟨rfl,e2⟩:=h3;exact h _ _ e2 hk
   case skip =>
    obtain ⟨rfl,e2⟩:=h3;exact h _ _ e2 hk
   case enter f args=>exact h3.mono fun e w'' ⟨he,hw''⟩=>by subst he; exact h _ _ hw'' hk
  | halt x w'=>simp only [runsTo] at h3
 ·rw [if_neg (by rw [hw]; exact Bool.false_ne_true)];exact h _ _ (hr listed w hcl hi hC) hk
theorem wpAny_of_L {Q : Act->Prop} {Q' : Exit->Act->World->Prop} (hQ : ∀ listed a w,Closed md ops listed->Region.ready md ops listed = []->C listed w->Q a->Q' .normal a w) : ∀ (fuel : Nat) (listed : Array Bool) (a : Act) (w : World),Closed md ops listed->C listed w ->
  wpAnyL P md ops C Q fuel listed a->wpAny P md ops Q' fuel listed a w
 | 0,_,_,_,hc,hw,h=>⟨h.1,hQ _ _ _ hc h.1 hw h.2⟩
 | fuel + 1,_,_,_,hc,hw,h=>⟨fun h0=>hQ _ _ _ hc h0 hw (h.1 h0),fun i hi=>wpOp_of_lOp hc hi hw (fun a' w' hw'=>wpAny_of_L hQ fuel _ a' w' (hc.set hi) hw') (h.2 i hi)⟩
theorem lOp_put {i j : Nat} {oi oj : Oper} {v : Value} (hj : ops[j]? = some oj) (hap : oi.apart ops oj = true)
  (hsi : ∀ cs b,oi.op≠.select cs b) (hsj : ∀ cs b,oj.op≠.select cs b) {K : Act->Prop} {a : Act}
  (hy : YieldsL P ops md C i oi v a) (h : lOp P ops md C j K (a.put oi.dst v)) :
  lOp P ops md C j (fun a'=>YieldsL P ops md C i oi v a'/\K (a'.put oi.dst v)) a:=by
 obtain ⟨h1,h2,h3⟩:=Oper.apart_spec hap;have keep : ∀ (a : Act),YieldsL P ops md C i oi v a->∀ u,YieldsL P ops md C i oi v (a.put oj.dst u):=fun a hy u =>
  hy.of_same (execOp_put oi hsi a oj.dst u h3) (wanted_put oi a oj.dst u h3)
 unfold lOp at *;simp only [hj] at *;obtain ⟨u,hu,hn⟩:=h;exact ⟨u,hu.of_same (execOp_put oj hsj a oi.dst v h1).symm (wanted_put oj a oi.dst v h1).symm,keep a hy u,by rw [<- Act.put_comm a v u h2]; exact hn⟩
theorem YieldsL.lOp {i : Nat} {o : Oper} {v : Value} {a : Act} (hi : ops[i]? = some o) (hy : YieldsL P ops md C i o v a) {K : Act->Prop} (h : K (a.put o.dst v)) : lOp P ops md C i K a:=by
 unfold Go.Proofs.YtfccelbmacjifabGreat.lOp;simp only [hi];exact ⟨v,hy,h⟩
theorem wpAnyL_first {Q : Act->Prop} {i : Nat} {oi : Oper} {v : Value} (hi : ops[i]? = some oi) (hsel : ∀ (j : Nat) (o : Oper) cs b,ops[j]? = some o->o.op≠.select cs b) :
  ∀ (fuel : Nat) (listed : Array Bool) (a : Act),
   (∀ j oj,ops[j]? = some oj->j≠i->listed.getD j true = false->(∀ e ∈ oj.after,Region.binds md e = true->e.on≠i)->oi.apart ops oj = true) ->
   i ∈ Region.ready md ops listed->YieldsL P ops md C i oi v a ->
   wpAnyL P md ops C Q fuel (listed.setIfInBounds i true) (a.put oi.dst v)->wpAnyL P md ops C Q (fuel + 1) listed a:=by
 intro fuel
 induction fuel with
 | zero =>
  intro listed a _ hr hy H;refine ⟨fun h=>(by rw [h] at hr; cases hr),fun j hj=>?_⟩;by_cases hji : j = i
  ·subst hji; exact hy.lOp hi H
  ·have:=ready_mono hj hji
   rw [H.1] at this;cases this
 | succ fuel ih =>
  intro listed a hfree hr hy H;refine ⟨fun h=>(by rw [h] at hr; cases hr),fun j hj=>?_⟩;by_cases hji : j = i
  ·subst hji; exact hy.lOp hi H
  ·have h1:=H.2 j (ready_mono hj hji);obtain ⟨hjun,oj,hoj,hall⟩:=mem_ready.1 hj;have hnot : ∀ e ∈ oj.after,Region.binds md e = true->e.on≠i:=fun e he hb heq=>by
    have h1:=hall e he hb;have h0:=(mem_ready.1 hr).1;rw [heq] at h1;rcases Nat.lt_or_ge i listed.size with h' | h'
    ·simp [h'] at h0 h1; rw [h0] at h1; cases h1
    ·simp [Array.getElem?_eq_none h'] at h1
   have h2:=lOp_put hoj (hfree j oj hoj hji hjun hnot) (fun cs b=>hsel i oi cs b hi) (fun cs b=>hsel j oj cs b hoj) hy h1;have hfree' : ∀ k ok,ops[k]? = some ok->k≠i->(listed.setIfInBounds j true).getD k true = false ->
     (∀ e ∈ ok.after,Region.binds md e = true->e.on≠i)->oi.apart ops ok = true:=fun k ok hk hki hun hno=>by
    refine hfree k ok hk hki ?_ hno;by_cases hjk : j = k
    ·subst hjk; exact hjun
    ·rw [getD_set_ne true hjk] at hun; exact hun
   refine lOp_mono (fun a' h3=>ih (listed.setIfInBounds j true) a' hfree' (ready_mono hr (Ne.symm hji)) h3.1 ?_) h2;rw [Array.setIfInBounds_comm _ _ hji];exact h3.2
def wpLex (P : Program) (ops : Array Oper) (md : Region.Mode) (C : Array Bool->World->Prop) (Q : Act->Prop) : Nat->List Oper->Act->Prop
 | _,[],a=>Q a
 | k,o :: rest,a=>∃ v,YieldsL P ops md C k o v a/\wpLex P ops md C Q (k + 1) rest (a.put o.dst v)
theorem wpAnyL_lex {Q : Act->Prop} (hs : Region.noSelect ops = true) : ∀ (l : List Oper) (k : Nat) (listed : Array Bool) (a : Act),(∀ j,l[j]? = ops[k + j]?) ->
  Region.lexFrom md ops l.length k listed = true->wpLex P ops md C Q k l a->wpAnyL P md ops C Q l.length listed a
 | [],_,_,_,_,hB,h=>⟨by simpa [Region.lexFrom] using hB,h⟩
 | o :: l,k,listed,a,hl,hB,h=>by
  have h0 : ops[k]? = some o:=by simpa using (hl 0).symm
  simp only [List.length_cons,Region.lexFrom,Bool.and_eq_true] at hB;obtain ⟨⟨hr,hf⟩,hB'⟩:=hB;obtain ⟨v,hy,hK⟩:=h;exact wpAnyL_first h0 (Region.noSelect_spec hs) l.length listed a (Region.free_spec h0 hf) (by simpa using hr) hy
   (wpAnyL_lex hs l (k + 1) _ _ (fun j=>by have:=hl (j + 1); simpa [Nat.add_assoc,Nat.add_comm 1 j] using this) hB' hK)
theorem wp_region_lex {id : Nat} {Q : Exit->Act->World->Prop} {Q1 : Act->Prop} {a : Act} {w : World} (hm : P.follows .mixedOrders = true) (hB : Region.lexB .any ops = true) (hC : C (Array.replicate ops.size false) { w with drawn:=w.drawn + 1 })
  (hQ : ∀ listed a w,Closed .any ops listed->Region.ready .any ops listed = []->C listed w->Q1 a->Q .normal a w)
  (h : wpLex P ops .any C Q1 0 ops.toList a) : (Code.region id ops true).wp P Q a w:=by
 simp only [Region.lexB,Bool.and_eq_true] at hB;refine wp_region_any hm (wpAny_of_L (Q:=Q1) hQ _ _ _ _ (Closed.start _ _) hC ?_)
 have:=wpAnyL_lex (C:=C) (md:=.any) hB.1 ops.toList 0 (Array.replicate ops.size false) a (by simp) (by simpa using hB.2) h
 simpa using this
def plainOp : Op->Bool
 | .move _ | .assign _ | .pick .. | .load .. | .nilCheck _ | .fieldAddr .. | .indexAddr .. | .binOp .. | .unOp .. | .build .. | .field .. | .index .. | .convert .. | .slice ..=>true
 | _=>false
theorem run_value {s : Sem Value} {P : Program} {w w' : World} {f : FuncId} {args : Array Value} : (do pure (Next.value (<- s)) : Sem Next).run P w≠.ok (.enter f args) w':=by
 intro h;simp only [Sem.run_bind] at h;cases hs : s.run P w with
 | ok a w1=>rw [hs] at h; simp [Result.andThen] at h
 | halt x w1=>rw [hs] at h; simp [Result.andThen] at h
theorem bind_noEnter {α : Type} {m : Sem α} {k : α->Sem Next} {P : Program} {w w' : World} {f : FuncId} {args : Array Value} (hk : ∀ a w w1,(k a).run P w≠.ok (.enter f args) w1) : (m >>= k).run P w≠.ok (.enter f args) w':=by
 intro h;simp only [Sem.run_bind] at h;cases hs : m.run P w with
 | ok a w1=>rw [hs] at h; simp only [Result.andThen] at h; exact hk _ _ _ h
 | halt x w1=>rw [hs] at h; simp [Result.andThen] at h
theorem plain_noEnter {o : Oper} (hp : plainOp o.op = true) {ρ : Operand->Value} {P : Program} {w w' : World} {f : FuncId} {args : Array Value} : (execOp ρ o).run P w≠.ok (.enter f args) w':=by
 obtain ⟨dst,op,ty,pos,aft,gd⟩:=o;cases op <;> simp only [plainOp,Bool.false_eq_true] at hp
 case move x=>simp [execOp]
 case assign x=>simp [execOp]
 case pick c x y =>
  intro h;simp only [execOp,Sem.run_bind] at h;cases hs : (asBool (ρ c)).run P w with
  | ok b w1=>rw [hs] at h; simp [Result.andThen] at h
  | halt x w1=>rw [hs] at h; simp [Result.andThen] at h
 case load t x=>exact run_value
 case fieldAddr t x f=>exact run_value
 case indexAddr t x ix=>exact run_value
 case binOp a b c d e=>exact run_value
 case unOp a b c=>exact run_value
 case build a b=>exact run_value
 case field a b c=>exact run_value
 case index a b c=>exact run_value
 case convert a b c=>exact run_value
 case slice a b c d e=>exact run_value
 case nilCheck x =>
  intro h;simp only [execOp] at h;split at h
  all_goals try (simp [go_sem,runtimePanic] at h; done)
  split at h
  ·simp [go_sem,runtimePanic] at h
  ·refine bind_noEnter (fun a w w1=>bind_noEnter (fun b w w1=>?_)) h;split
   ·exact bind_noEnter (fun _ w w1=>by simp)
   ·simp
  ·simp at h
def waitsB (md : Region.Mode) (ops : Array Oper) (j i : Nat) : Bool :=
 match ops[j]? with
 | some o=>o.after.any fun e=>Region.binds md e && e.on == i
 | none=>false
def chainB (md : Region.Mode) (ops : Array Oper) : List Nat->Bool
 | i :: j :: r=>waitsB md ops j i && chainB md ops (j :: r)
 | _=>true
theorem waits_spec {j i : Nat} (h : waitsB md ops j i = true) : ∃ o e,ops[j]? = some o/\e ∈ o.after/\Region.binds md e = true/\e.on = i:=by
 unfold waitsB at h;split at h
 ·next o ho =>
  rw [Array.any_eq_true'] at h;obtain ⟨e,he,h1⟩:=h;simp only [Bool.and_eq_true,beq_iff_eq] at h1;exact ⟨o,e,ho,he,h1.1,h1.2⟩
 ·simp at h
theorem Closed.down {listed : Array Bool} (h : Closed md ops listed) : ∀ (l : List Nat) (i : Nat),chainB md ops (i :: l) = true->∀ j ∈ l,listed.getD j false = true->listed.getD i false = true
 | [],_,_,j,hj,_=>by simp at hj
 | k :: r,i,hc,j,hj,hl=>by
  simp only [chainB,Bool.and_eq_true] at hc;obtain ⟨o,e,ho,he,hb,rfl⟩:=waits_spec hc.1;have hk : listed.getD k false = true:=by
   rcases List.mem_cons.1 hj with rfl | hj
   ·exact hl
   ·exact h.down r k hc.2 j hj hl
  exact h.dep k o ho hk e he hb
theorem chainB_tail {i : Nat} {l : List Nat} (h : chainB md ops (i :: l) = true) : chainB md ops l = true:=by
 cases l with
 | nil=>rfl
 | cons j r=>simp only [chainB,Bool.and_eq_true] at h; exact h.2
def stage (effs : List Nat) (listed : Array Bool) : Nat:=(effs.filter fun i=>listed.getD i false).length
theorem stage_set {effs : List Nat} {listed : Array Bool} {i : Nat} (h : i ∉ effs) : stage effs (listed.setIfInBounds i true) = stage effs listed:=by
 unfold stage
 congr 1
 apply List.filter_congr;intro j hj;rw [getD_set_ne false (by rintro rfl; exact h hj)]
theorem getD_flip {listed : Array Bool} {j : Nat} (hj : j < listed.size) : listed.getD j true = listed.getD j false:=by
 simp [hj]
theorem stage_ready {listed : Array Bool} (h : Closed md ops listed) : ∀ (effs : List Nat) (s i : Nat),chainB md ops effs = true->effs.Nodup->effs[s]? = some i->i ∈ Region.ready md ops listed->i < listed.size ->
  stage effs listed = s/\stage effs (listed.setIfInBounds i true) = s + 1
 | [],s,i,_,_,hs,_,_=>by simp at hs
 | e :: r,0,i,hc,hnd,hs,hr,hsz=>by
  simp at hs; subst hs;obtain ⟨h0,_⟩:=mem_ready.1 hr;rw [getD_flip hsz] at h0;have hpost : ∀ j ∈ r,listed.getD j false = false:=by
   intro j hj;cases hv : listed.getD j false with
   | false=>rfl
   | true=>have:=h.down r e hc j hj hv; rw [h0] at this; cases this
  have hnot : e ∉ r:=(List.nodup_cons.1 hnd).1;have e1 : r.filter (fun i=>listed.getD i false) = []:=by
   apply List.filter_eq_nil_iff.2; intro j hj; rw [hpost j hj]; simp
  have e2 : r.filter (fun i=>(listed.setIfInBounds e true).getD i false) = []:=by
   apply List.filter_eq_nil_iff.2; intro j hj; rw [getD_set_ne false (by rintro rfl; exact hnot hj),hpost j hj]; simp
  have e3 : (listed.setIfInBounds e true).getD e false = true:=by simp [hsz]
  constructor
  ·unfold stage; rw [List.filter_cons_of_neg (by rw [h0]; simp),e1]; rfl
  ·unfold stage; rw [List.filter_cons_of_pos (by rw [e3]),e2]; rfl
 | e :: r,s + 1,i,hc,hnd,hs,hr,hsz=>by
  simp at hs;have hnd':=List.nodup_cons.1 hnd;have hir : i ∈ r:=List.mem_of_getElem? hs;have hei : e≠i:=by rintro rfl; exact hnd'.1 hir
  obtain ⟨h1,h2⟩:=stage_ready h r s i (chainB_tail hc) hnd'.2 hs hr hsz;have he : listed.getD e false = true:=by
   cases r with
   | nil=>simp at hs
   | cons k r' =>
    simp only [chainB,Bool.and_eq_true] at hc;obtain ⟨o,ed,ho,hed,hb,rfl⟩:=waits_spec hc.1;cases s with
    | zero =>
     simp at hs; subst hs;obtain ⟨_,o',ho',hall⟩:=mem_ready.1 hr;rw [ho] at ho'; cases ho';exact hall ed hed hb
    | succ s' =>
     refine h.dep k o ho ?_ ed hed hb;have hk : ∃ j ∈ r',(listed.getD j false = true)\/j = i:=⟨i,by simp at hs; exact List.mem_of_getElem? hs,.inr rfl⟩;have hs1 : stage (k :: r') listed = s' + 1:=h1
     -- k has come up: it is the first of the chain,and s' + 1 of them have
     cases hv : listed.getD k false with
     | true=>rfl
     | false =>
      exfalso;have hall : ∀ j ∈ r',listed.getD j false = false:=by
       intro j hj;cases hw : listed.getD j false with
       | false=>rfl
       | true=>have:=h.down r' k hc.2 j hj hw; rw [hv] at this; cases this
      have e1 : r'.filter (fun i=>listed.getD i false) = []:=by
       apply List.filter_eq_nil_iff.2; intro j hj; rw [hall j hj]; simp
      unfold stage at hs1;rw [List.filter_cons_of_neg (by rw [hv]; simp),e1] at hs1;simp at hs1
  constructor
  ·unfold stage at *; rw [List.filter_cons_of_pos (by rw [he]),List.length_cons,h1]
  ·unfold stage at *; rw [List.filter_cons_of_pos (by rw [getD_set_ne false hei.symm,he]),List.length_cons,h2]
def targets (md : Region.Mode) (ops : Array Oper) (n : Nat) : List Nat :=
 match ops[n]? with
 | some o=>(o.after.toList.filter fun e=>Region.binds md e).map (·.on)
 | none=>[]
def reachFrom (md : Region.Mode) (ops : Array Oper) : Nat->List Nat->List Nat
 | 0,s=>s
 | n + 1,s=>reachFrom md ops n (if s.contains n then s ++ targets md ops n else s)
def coverB (md : Region.Mode) (ops : Array Oper) (last : Nat) : Bool:=(List.range ops.size).all fun i=>(reachFrom md ops ops.size [last]).contains i
theorem Closed.reach {listed : Array Bool} (h : Closed md ops listed) : ∀ (n : Nat) (s : List Nat),(∀ i ∈ s,listed.getD i false = true)->∀ i ∈ reachFrom md ops n s,listed.getD i false = true
 | 0,s,hs,i,hi=>hs i hi
 | n + 1,s,hs,i,hi=>by
  refine h.reach n _ ?_ i hi;intro j hj;split at hj
  ·next hn =>
   rcases List.mem_append.1 hj with hj | hj
   ·exact hs j hj
   ·unfold targets at hj;split at hj
    ·next o ho =>
     simp only [List.mem_map,List.mem_filter,Array.mem_toList_iff] at hj;obtain ⟨e,⟨he,hb⟩,rfl⟩:=hj;exact h.dep n o ho (hs n (by simpa using hn)) e he hb
    ·simp at hj
  ·exact hs j hj
theorem Closed.cover {listed : Array Bool} (h : Closed md ops listed) {last i : Nat} (hc : coverB md ops last = true) (hi : i < ops.size) (hl : listed.getD last false = true) : listed.getD i false = true:=by
 unfold coverB at hc;rw [List.all_eq_true] at hc;exact h.reach _ [last] (by intro j hj; rw [List.mem_singleton] at hj; subst hj; exact hl) i (by simpa using hc i (by simpa using hi))
def lowB (md : Region.Mode) (ops : Array Oper) : Bool:=(List.range ops.size).all fun j=>(targets md ops j).all fun i=>decide (i < j)
theorem Closed.all_listed {listed : Array Bool} (h : Closed md ops listed) (hlow : lowB md ops = true) (hr : Region.ready md ops listed = []) : ∀ j,j < ops.size->listed.getD j false = true:=by
 intro j
 induction j using Nat.strongRecOn with
 | ind j ih =>
  intro hj;cases hv : listed.getD j false with
  | true=>rfl
  | false =>
   exfalso;have hmem : j ∈ Region.ready md ops listed:=by
    refine mem_ready.2 ⟨by rw [getD_flip (by rw [h.size]; exact hj)]; exact hv,ops[j],by simp [hj],?_⟩;intro e he hb;have hlt : e.on < j:=by
     unfold lowB at hlow;rw [List.all_eq_true] at hlow;have h1:=hlow j (by simpa using hj);rw [List.all_eq_true] at h1;have h2:=h1 e.on (by unfold targets; simp [hj]; exact ⟨e,⟨he,hb⟩,rfl⟩);simpa using h2
    exact ih e.on hlt (by omega)
   rw [hr] at hmem;cases hmem
def wpMix (P : Program) (ops : Array Oper) (S : World->Prop) (Cs : Nat->World->Prop) (effs : List Nat) (Q : Act->Prop) : List Oper->Nat->Nat->Act->Prop
 | [],_,_,a=>Q a
 | o :: rest,i,s,a =>
  if effs.contains i then effs[s]? = some i/\Region.wanted o (yielded ops a.tmps) = true/\∃ v,(∀ w,Cs s w->runsTo P (Cs (s + 1)) v ((execOp a.eval o).run P w))/\wpMix P ops S Cs effs Q rest (i + 1) (s + 1) (a.put o.dst v)
  else (Region.wanted o (yielded ops a.tmps) = true->plainOp o.op = true)/\if Region.wanted o (yielded ops a.tmps) then o.quiet P a S (wpMix P ops S Cs effs Q rest (i + 1) s) else wpMix P ops S Cs effs Q rest (i + 1) s (a.put o.dst undef)
theorem mix_nil {S : World->Prop} {Cs : Nat->World->Prop} {effs : List Nat} {Q : Act->Prop} {i s : Nat} {a : Act} (h : Q a) : wpMix P ops S Cs effs Q [] i s a:=h
theorem mix_read {S : World->Prop} {Cs : Nat->World->Prop} {effs : List Nat} {Q : Act->Prop} {o : Oper} {rest : List Oper} {i s : Nat} {a : Act} (hi : effs.contains i = false) (hp : plainOp o.op = true)
  (h : wpQuiet P ops S (fun a'=>wpMix P ops S Cs effs Q rest (i + 1) s a') [o] a) : wpMix P ops S Cs effs Q (o :: rest) i s a:=by
 rw [wpMix,hi,if_neg Bool.false_ne_true];refine ⟨fun _=>hp,?_⟩;unfold wpQuiet at h;split
 ·next hw=>rw [if_pos hw] at h; exact h
 ·next hw=>rw [if_neg hw] at h; exact h
theorem mix_skip {S : World->Prop} {Cs : Nat->World->Prop} {effs : List Nat} {Q : Act->Prop} {o : Oper} {rest : List Oper} {i s : Nat} {a : Act} (hi : effs.contains i = false) (hg : Region.wanted o (yielded ops a.tmps) = false)
  (h : wpMix P ops S Cs effs Q rest (i + 1) s (a.put o.dst undef)) : wpMix P ops S Cs effs Q (o :: rest) i s a:=by
 rw [wpMix,hi,if_neg Bool.false_ne_true];refine ⟨(fun e=>by rw [hg] at e; exact nomatch e),?_⟩;rw [hg,if_neg Bool.false_ne_true];exact h
theorem mix_effC {S : World->Prop} {Cs : Nat->World->Prop} {effs : List Nat} {Q : Act->Prop} {o : Oper} {rest : List Oper} {i s : Nat} {a : Act} (v : Value) (hi : effs.contains i = true) (hs : effs[s]? = some i) (hg : o.guard = none)
  (hr : ∀ w,Cs s w->runsTo P (Cs (s + 1)) v ((execOp a.eval o).run P w)) (h : wpMix P ops S Cs effs Q rest (i + 1) (s + 1) (a.put o.dst v)) : wpMix P ops S Cs effs Q (o :: rest) i s a:=by
 rw [wpMix,hi,if_pos rfl];exact ⟨hs,by simp [Region.wanted,hg],v,hr,h⟩
theorem mix_effG {S : World->Prop} {Cs : Nat->World->Prop} {effs : List Nat} {Q : Act->Prop} {o : Oper} {rest : List Oper} {i s : Nat} {a : Act} (v : Value) (hi : effs.contains i = true) (hs : effs[s]? = some i) (hg : Region.wanted o (yielded ops a.tmps) = true)
  (hr : ∀ w,Cs s w->runsTo P (Cs (s + 1)) v ((execOp a.eval o).run P w)) (h : wpMix P ops S Cs effs Q rest (i + 1) (s + 1) (a.put o.dst v)) : wpMix P ops S Cs effs Q (o :: rest) i s a:=by
 rw [wpMix,hi,if_pos rfl];exact ⟨hs,hg,v,hr,h⟩
theorem mix_eff {S : World->Prop} {Ws : Nat->World} {effs : List Nat} {Q : Act->Prop} {o : Oper} {rest : List Oper} {i s : Nat} {a : Act} {v : Value} (hi : effs.contains i = true) (hs : effs[s]? = some i) (hg : o.guard = none)
  (hr : runsTo P (fun w'=>w' = Ws (s + 1)) v ((execOp a.eval o).run P (Ws s))) (h : wpMix P ops S (fun k w'=>w' = Ws k) effs Q rest (i + 1) (s + 1) (a.put o.dst v)) : wpMix P ops S (fun k w'=>w' = Ws k) effs Q (o :: rest) i s a :=
 mix_effC v hi hs hg (by rintro w rfl; exact hr) h
theorem lex_of_mix {S : World->Prop} {Cs : Nat->World->Prop} {effs : List Nat} {Q : Act->Prop} (hch : chainB md ops effs = true) (hnd : effs.Nodup) {last : Nat} (hlast : effs.getLast? = some last) (hS : ∀ k w,k < effs.length->Cs k w->S w)
  (hcov : coverB md ops last = true\/∀ w,Cs effs.length w->S w) :
  ∀ (l : List Oper) (i s : Nat) (a : Act),(∀ j,l[j]? = ops[i + j]?)->wpMix P ops S Cs effs Q l i s a->wpLex P ops md (fun listed w=>Cs (stage effs listed) w) Q i l a
 | [],_,_,_,_,h=>h
 | o :: rest,i,s,a,hl,h=>by
  have h0 : ops[i]? = some o:=by simpa using (hl 0).symm
  have hisz : i < ops.size:=(Array.getElem?_eq_some_iff.1 h0).1;have hl' : ∀ j,rest[j]? = ops[i + 1 + j]?:=fun j=>by have:=hl (j + 1); simpa [Nat.add_assoc,Nat.add_comm 1 j] using this
  rw [wpMix] at h;unfold wpLex;split at h
  ·obtain ⟨hs,hg,v,hr,hk⟩:=h;refine ⟨v,.inl ⟨hg,?_⟩,lex_of_mix hch hnd hlast hS hcov rest (i + 1) (s + 1) _ hl' hk⟩;intro listed w hcl hrd hw;have hst:=stage_ready hcl effs s i hch hnd hs hrd (by rw [hcl.size]; exact hisz)
   dsimp only at hw ⊢
   rw [hst.2];rw [hst.1] at hw;exact hr w hw
  ·next hni =>
   have hni' : i ∉ effs:=by intro hm; apply hni; simpa using hm
   obtain ⟨hpw,h⟩:=h;have hcls : ∀ listed w,Closed md ops listed->i ∈ Region.ready md ops listed->Cs (stage effs listed) w->S w:=by
    intro listed w hcl hrd hw;have hle : stage effs listed<=effs.length:=List.length_filter_le _ _;rcases hcov with hcov | hcov
    ·have hun:=(mem_ready.1 hrd).1;rw [getD_flip (by rw [hcl.size]; exact hisz)] at hun;have hlu : listed.getD last false = false:=by
      cases hv : listed.getD last false with
      | false=>rfl
      | true=>have:=hcl.cover hcov hisz hv; rw [hun] at this; cases this
     refine hS _ _ ?_ hw;have hlm : last ∈ effs:=List.mem_of_getLast? hlast;refine Nat.lt_of_le_of_ne hle ?_;intro he;unfold stage at he
     have:=List.length_filter_eq_length_iff.1 he last hlm
     rw [hlu] at this;cases this
    ·rcases Nat.lt_or_eq_of_le hle with h1 | h1
     ·exact hS _ _ h1 hw
     ·rw [h1] at hw; exact hcov w hw
   split at h
   ·next hw =>
    obtain ⟨v,hv,hk⟩:=h;have hp:=hpw hw;refine ⟨v,.inl ⟨hw,?_⟩,lex_of_mix hch hnd hlast hS hcov rest (i + 1) s _ hl' hk⟩;intro listed w hcl hrd hwe;have hq:=hv w (hcls listed w hcl hrd hwe)
    dsimp only at hwe ⊢
    rw [stage_set hni'];unfold Oper.quietAt at hq;generalize hres : (execOp a.eval o).run P w = r at *;cases r with
    | ok n w' =>
     cases n <;> simp only [Oper.quietUpon] at hq <;> simp only [runsTo]
     case value u=>exact ⟨hq.2,by rw [hq.1]; exact hwe⟩
     case skip=>exact ⟨hq.2,by rw [hq.1]; exact hwe⟩
     case enter f args=>exact absurd hres (plain_noEnter hp)
    | halt x w'=>simp only [Oper.quietUpon] at hq
   ·next hw =>
    refine ⟨undef,.inr ⟨by simpa using hw,rfl,?_⟩,lex_of_mix hch hnd hlast hS hcov rest (i + 1) s _ hl' h⟩;intro listed w _ _ hwe;rw [stage_set hni']; exact hwe
theorem wp_region_mixS {id : Nat} {Q : Exit->Act->World->Prop} {a : Act} {w : World} {l : List Oper} (effs : List Nat) (S : World->Prop) (Cs : Nat->World->Prop) (m : Nat) (hlen : effs.length = m + 1) (hm : P.follows .mixedOrders = true) (hB : Region.lexB .any l.toArray = true)
  (hch : chainB .any l.toArray effs = true) (hnd : effs.Nodup) (hlow : lowB .any l.toArray = true) (hin : ∀ j ∈ effs,j < l.length) (h0 : Cs 0 w.drew) (hS : ∀ k w,k<=m->Cs k w->S w)
  (hcov : coverB .any l.toArray (effs.getLast?.getD 0) = true\/∀ w,Cs (m + 1) w->S w)
  (h : wpMix P l.toArray S Cs effs (fun a'=>∀ w',Cs (m + 1) w'->Q .normal a' w') l 0 0 a) : (Code.region id l.toArray true).wp P Q a w:=by
 have hne : effs≠[]:=by intro e; rw [e] at hlen; simp at hlen
 have hlast:=List.getLast?_eq_some_getLast hne;rw [hlast,Option.getD_some] at hcov;refine wp_region_lex (C:=fun listed w=>Cs (stage effs listed) w) (Q1:=fun a'=>∀ w',Cs (m + 1) w'->Q .normal a' w') hm hB ?_ ?_ ?_
 ·have : stage effs (Array.replicate l.toArray.size false) = 0:=by
   unfold stage;rw [List.length_eq_zero_iff];apply List.filter_eq_nil_iff.2;intro j _;simp only [Array.getD_eq_getD_getElem?,Array.getElem?_replicate];split <;> simp
  rw [this]; exact h0
 ·intro listed a' w' hcl hrd hw hq;have hst : stage effs listed = m + 1:=by
   rw [<- hlen];unfold stage;rw [List.length_filter_eq_length_iff];intro j hj;have hjs : j < l.toArray.size:=by
    have:=hin j hj; simpa using this
   rw [hcl.all_listed hlow hrd j hjs]
  rw [hst] at hw; exact hq w' hw
 ·exact lex_of_mix hch hnd hlast (fun k w hk=>hS k w (by omega)) (by rw [hlen]; exact hcov) l 0 0 a (by simp) h
theorem wp_region_mix {id : Nat} {Q : Exit->Act->World->Prop} {a : Act} {w : World} {l : List Oper} (effs : List Nat) (Ws : Nat->World) (m : Nat) (hlen : effs.length = m + 1) (hm : P.follows .mixedOrders = true) (hB : Region.lexB .any l.toArray = true)
  (hch : chainB .any l.toArray effs = true) (hnd : effs.Nodup) (hcov : coverB .any l.toArray (effs.getLast?.getD 0) = true) (hlow : lowB .any l.toArray = true) (hin : ∀ j ∈ effs,j < l.length) (h0 : Ws 0 = w.drew)
  (h : ∀ W : Nat->World,(∀ u,∃ k,k<=m/\W u = Ws k)->wpMix P l.toArray (fun w'=>∃ u,w' = W u) (fun k w'=>w' = Ws k) effs (fun a'=>Q .normal a' (Ws (m + 1))) l 0 0 a) : (Code.region id l.toArray true).wp P Q a w:=by
 have hW:=h (fun u=>Ws (min u m)) (fun u=>⟨min u m,Nat.min_le_right _ _,rfl⟩);refine wp_region_mixS effs (fun w'=>∃ u,w' = Ws (min u m)) (fun k w'=>w' = Ws k) m hlen hm hB hch hnd hlow hin h0.symm (fun k w hk hw=>⟨k,by rw [hw,Nat.min_eq_left hk]⟩) (.inl hcov) ?_;have e : (fun a'=>∀ w',w' = Ws (m + 1)->Q .normal a' w') = fun a'=>Q .normal a' (Ws (m + 1)):=by
  funext a'; simp
 rw [e];exact hW
theorem wp_region_mixC {id : Nat} {Q : Exit->Act->World->Prop} {a : Act} {w : World} {l : List Oper} (effs : List Nat) (Cs : Nat->World->Prop) (m : Nat) (hlen : effs.length = m + 1) (hm : P.follows .mixedOrders = true) (hB : Region.lexB .any l.toArray = true)
  (hch : chainB .any l.toArray effs = true) (hnd : effs.Nodup) (hlow : lowB .any l.toArray = true) (hin : ∀ j ∈ effs,j < l.length) (h0 : Cs 0 w.drew)
  (h : ∀ (U : Type) (W : U->World),Nonempty U->(∀ u,∃ k,k<=m + 1/\Cs k (W u))->wpMix P l.toArray (fun w'=>∃ u,w' = W u) Cs effs (fun a'=>∀ w',Cs (m + 1) w'->Q .normal a' w') l 0 0 a) : (Code.region id l.toArray true).wp P Q a w:=by
 have hW:=h { w' : World // ∃ k,k<=m + 1/\Cs k w' } (fun u=>u.1) ⟨⟨w.drew,0,Nat.zero_le _,h0⟩⟩ (fun u=>u.2);exact wp_region_mixS effs (fun w'=>∃ u : { w' : World // ∃ k,k<=m + 1/\Cs k w' },w' = u.1) Cs m hlen hm hB hch hnd hlow hin h0 (fun k w hk hw=>⟨⟨w,k,by omega,hw⟩,rfl⟩) (.inr fun w hw=>⟨⟨w,m + 1,Nat.le_refl _,hw⟩,rfl⟩) hW
end
end
section
open Go.RowKit
theorem wp_region_calm {Pg : Program} {id : Nat} {Q : Exit->Go.Act->World->Prop} {a : Go.Act} {w : World} {l : List Oper} (effs : List Nat) (m : Nat) (hlen : effs.length = m + 1) (hm : Pg.follows .mixedOrders = true) (hB : Region.lexB .any l.toArray = true)
  (hch : chainB .any l.toArray effs = true) (hnd : effs.Nodup) (hlow : lowB .any l.toArray = true) (hin : ∀ j ∈ effs,j < l.length)
  (h : ∀ (U : Type) (W : U->World),Nonempty U->(∀ u,Fr (fun _=>False) w (W u))->wpMix Pg l.toArray (fun w'=>∃ u,w' = W u) (fun _ w'=>Fr (fun _=>False) w w') effs (fun a'=>∀ w',Fr (fun _=>False) w w'->Q .normal a' w') l 0 0 a) :
  (Code.region id l.toArray true).wp Pg Q a w:=by
 refine wp_region_mixC effs (fun _ w'=>Fr (fun _=>False) w w') m hlen hm hB hch hnd hlow hin ((Fr.refl _ _).drew) ?_;intro U W hU hW;exact h U W hU (fun u=>(hW u).elim fun _ hk=>hk.2)
theorem Fr.cells {S : Nat->Prop} {w w' : World} (h : Fr S w w') {b : Nat} {c : List Value} {e : TypeId} (ha : At w b c e) (hS : ¬ S b) : ∀ o,w'.cell? ⟨b,o,none⟩ = c[o]?:=(h.at ha hS).cell
section
variable {own : Own} {z : Nat} {w : World} {L : ZLay} {P : PSt}
theorem leadsFrom_calls (h : ZAt own z w L P) (n key : Int) :
  Calls Tryz.prog 117 #[.pointer (some ⟨L.s,0,none⟩),.int .i64 n,.int .i64 key] w fun e w'=>e = .returned (.int .i64 (P.leadsFrom n key))/\Fr (fun _=>False) w w':=by
 have hs:=h.hd.cell;simp only [PSt.head] at hs;have H:=(mkH (ZAt own z w L P) <|h);clear h
 go_enter Tryz.func117,Tryz.ntmps117
 go_wp2_with fail;refine (LinkFor_calls H.out.mem n key).mono ?_;rintro e w1 ⟨rfl,hF⟩;have H1:=(mkH (ZAt own z w1 L P) <|H.out.calm hF);have HF1:=(mkH (Fr _ w w1) <|hF);clear hF H hs;have hs:=H1.out.hd.cell;have hsl:=H1.out.hd.lt;simp only [PSt.head] at hs;unfold lnk;go_wp2_with fail;have hA:=At.new w1 [.int .i64 n,.int .i64 (b2i (P.mem.sideFor n key))] 113;have HA:=(mkH (At _ _ _ _) <|hA);have HF2:=(mkH (Fr _ w1 _) <|(Fr.refl (fun _=>False) w1).alloc (.cells #[.int .i64 n,.int .i64 (b2i (P.mem.sideFor n key))] 113));clear hA;refine wp_region_calm [5] 0 rfl (by kernel_rfl) (by kernel_rfl) (by kernel_rfl) (by decide) (by kernel_rfl) (by decide) ?_;intro U W hU hW;have hau : ∀ u o,(W u).cell? ⟨L.s,o,none⟩ = (P.head L)[o]?:=fun u=>((H1.out.calm HF2.out).calm (hW u)).hd.cell
 have hlu : ∀ u o,(W u).cell? ⟨w1.heap.size,o,none⟩ = _:=fun u=>(hW u).cells HA.out (fun h=>h)
 simp only [PSt.head] at hau;clear hW hs
 repeat (refine mix_read rfl rfl ?_; go_big_quiet_step (fail); refine wpQuiet_nil ?_)
 refine mix_effC (.int .i64 (P.leadsFrom n key)) rfl rfl rfl ?_ ?_
 ·intro w' hw';go_simp;refine (LeadsTo_calls ((H1.out.calm HF2.out).calm hw').mem n (P.mem.sideFor n key)).mono ?_;rintro e w'' ⟨rfl,hF⟩;exact ⟨rfl,hw'.trans hF⟩
 go_simp
 repeat (refine mix_read rfl rfl ?_; go_big_quiet_step (fail); refine wpQuiet_nil ?_)
 refine mix_nil ?_;intro w2 hw2;clear hau hlu;go_wp2;go_ret;exact ⟨rfl,(HF1.out.trans HF2.out).trans hw2⟩
end
end
end Go.Proofs.YtfccelbmacjifabGreat
