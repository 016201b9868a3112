import Derived.Test.YtfccelbmacjifaaGreatP0
import Derived.Test.YtfccelbmacjifaaGreatP27
set_option linter.unusedSimpArgs false
set_option maxRecDepth 100000
set_option maxHeartbeats 4000000
namespace Go.Proofs.YtfccelbmacjifaaGreat
section
def okT (Rt : Int->List (Int × Int)) (c : Int) (d : DeedV) : Prop:=(d.op.kind = 1\/d.op.kind = 2)/\1<=d.a.stamp/\d.a.stamp<=c/\shUpd (Rt (d.a.stamp - 1)) d.op.kind d.op.key = true/\Rt d.a.stamp = shNew (Rt (d.a.stamp - 1)) d.op.kind d.op.key d.op.value/\d.a = { shAns (Rt (d.a.stamp - 1)) d.op.kind d.op.key d.op.spans with stamp:=d.a.stamp }
def okN (Rt : Int->List (Int × Int)) (c : Int) (d : DeedV) : Prop:=0<=d.a.stamp/\d.a.stamp<=c/\shUpd (Rt d.a.stamp) d.op.kind d.op.key = false/\d.a.err = 0/\d.a = { shAns (Rt d.a.stamp) d.op.kind d.op.key d.op.spans with stamp:=d.a.stamp }
def okE (N E L puts takes : Int) (d : DeedV) : Prop:=d.a = { err:=d.a.err }/\((d.a.err = 7/\(d.op.kind = 1\/d.op.kind = 2)/\(N < puts\/E < 1 + 2 * puts + takes))\/(d.a.err = 8/\(d.op.kind = 1\/d.op.kind = 2)/\L < puts + takes)\/(d.a.err = 9/\d.op.kind = 4/\64 < d.op.spans.length * puts))
def FairD (Rt : Int->List (Int × Int)) (c N E L puts takes : Int) (d : DeedV) : Prop:=okT Rt c d\/okN Rt c d\/okE N E L puts takes d
section
variable {C : Int->Prop} {Rt : Int->List (Int × Int)} {Vt : Int->Int->Prop} {u : Int->Int × Int × Int} {P : PSt} {i : Nat} {t t' : PThread} {puts takes N E L f s c : Int} {ds : List DeedV} {o : OpV} {k : PWork} {d : DeedV}
theorem okT.took (h : okT Rt c d) : tookD d = true/\d.a.err = 0:=by
 obtain ⟨h1,_,_,h4,_,h6⟩:=h;have hd : shAns (Rt (d.a.stamp - 1)) d.op.kind d.op.key d.op.spans = { did:=true,value:=if d.op.kind = 2 then (shVal (Rt (d.a.stamp - 1)) d.op.key).1 else 0 }:=by
  unfold shAns;rw [if_neg (by omega),if_neg (by omega),h4,if_pos rfl]
 rw [hd] at h6;unfold tookD;rw [h6];simp [h1]
theorem okN.took (h : okN Rt c d) : tookD d = false:=by
 obtain ⟨_,_,h3,_,h5⟩:=h;unfold tookD;by_cases hk : d.op.kind = 1\/d.op.kind = 2
 ·have hd : shAns (Rt d.a.stamp) d.op.kind d.op.key d.op.spans = {}:=by
   unfold shAns;rw [if_neg (by omega),if_neg (by omega),h3]
   rfl
  rw [hd] at h5;rw [h5]; simp
 ·simp [hk]
theorem okE.err (h : okE N E L puts takes d) : d.a.err≠0/\d.a.stamp = 0:=by
 obtain ⟨h1,h2⟩:=h;refine ⟨by omega,by rw [h1]⟩
theorem FairD.le (h : FairD Rt c N E L puts takes d) (h0 : 0<=c) : d.a.stamp<=c:=by
 rcases h with h | h | h
 ·exact h.2.2.1
 ·exact h.2.1
 ·rw [h.err.2]; exact h0
theorem FairD.more (h : FairD Rt P.clock N E L puts takes d) : FairD (nextR Rt P t) (P.clock + 1) N E L puts takes d:=by
 have e : ∀ s,s<=P.clock->nextR Rt P t s = Rt s:=fun s hs=>by unfold nextR; rw [if_neg (by omega)]
 rcases h with h | h | h
 ·left;obtain ⟨h1,h2,h3,h4,h5,h6⟩:=h;refine ⟨h1,h2,by omega,?_,?_,?_⟩
  ·rw [e _ (by omega)]; exact h4
  ·rw [e _ (by omega),e _ (by omega)]; exact h5
  ·rw [e _ (by omega)]; exact h6
 ·right; left;obtain ⟨h1,h2,h3,h4,h5⟩:=h;refine ⟨h1,by omega,?_,h4,?_⟩
  ·rw [e _ (by omega)]; exact h3
  ·rw [e _ (by omega)]; exact h5
 ·exact .inr (.inr h)
theorem FairD.begun (h : FairD Rt c N E L puts takes d) {p q : Int} (hp : puts<=p) (hq : takes<=q) : FairD Rt c N E L p q d:=by
 rcases h with h | h | h
 ·exact .inl h
 ·exact .inr (.inl h)
 ·obtain ⟨h1,h2⟩:=h;refine .inr (.inr ⟨h1,?_⟩);rcases h2 with ⟨a,b,c⟩ | ⟨a,b,c⟩ | ⟨a,b,c⟩
  ·exact .inl ⟨a,b,by omega⟩
  ·exact .inr (.inl ⟨a,b,by omega⟩)
  ·refine .inr (.inr ⟨a,b,?_⟩)
   have:=Int.mul_le_mul_of_nonneg_left hp (show (0 : Int)<=d.op.spans.length by omega)
   omega
theorem shNew_val (R : List (Int × Int)) (kd ky v v' : Int) (h : kd = 1->v = v') : shNew R kd ky v = shNew R kd ky v':=by
 unfold shNew;split
 ·by_cases e : kd = 1
  ·rw [if_pos e,if_pos e,h e]
  ·rw [if_neg e,if_neg e]
 ·rfl
theorem end_fair (h : Inv C P) (hR : InvR Rt Vt P) (hS : Said Rt u P.clock t) (hw : WT ds N E L puts takes t.work o f) (hrs : ∀ s,1<=s->s<=P.clock->Rt s = shNew (Rt (s - 1)) (u s).1 (u s).2.1 (u s).2.2) (hn : Nums Rt P puts takes) (ht : P.ts[i]? = some t) (hb : t.busy = true) (h13 : t.work.next = 13) (av : Value) :
  FairD Rt P.clock N E L puts takes ⟨o,t.work.ans,av,f⟩/\(t.work.ans.err = 0->Tm ds t.work.ans.stamp f (tookD ⟨o,t.work.ans,av,f⟩)):=by
 obtain ⟨o1,o2,o3,o4⟩:=hw.op;have hkd:=(h.th i t ht).kd hb;by_cases hk : t.work.kind = 1\/t.work.kind = 2
 ·have hko : o.kind = 1\/o.kind = 2:=by rw [<- o1]; exact hk
  have hky:=o2 (by omega);have htk : tookD ⟨o,t.work.ans,av,f⟩ = t.work.ans.did:=by unfold tookD; simp only [hko,decide_true,Bool.true_and]
  refine ⟨?_,fun he=>by rw [htk]; exact hw.ut hk (by omega) he⟩;rcases hS.a12 hb hk (by omega) with q | q | q | q
  ·left;obtain ⟨q1,q2,q3,q4,q5⟩:=q;refine ⟨hko,q1,q2,?_,?_,?_⟩
   ·show shUpd (Rt (t.work.ans.stamp - 1)) o.kind o.key = true;rw [<- o1,<- hky]; exact q4
   ·show Rt t.work.ans.stamp = shNew (Rt (t.work.ans.stamp - 1)) o.kind o.key o.value;rw [hrs _ q1 q2,q3,<- o1,<- hky];exact shNew_val _ _ _ _ _ o3
   ·show t.work.ans = { shAns (Rt (t.work.ans.stamp - 1)) o.kind o.key o.spans with stamp:=t.work.ans.stamp };have : shAns (Rt (t.work.ans.stamp - 1)) o.kind o.key o.spans = { did:=true,value:=if t.work.kind = 2 then (shVal (Rt (t.work.ans.stamp - 1)) t.work.key).1 else 0 }:=by
     unfold shAns;rw [if_neg (by omega),if_neg (by omega),<- o1,<- hky,q4,if_pos rfl]
    rw [this];generalize t.work.ans.stamp = s at *;rw [q5]
  ·right; left;obtain ⟨q1,q2,q3,q4⟩:=q;refine ⟨q1,q2,?_,by show t.work.ans.err = 0; rw [q4],?_⟩
   ·show shUpd (Rt t.work.ans.stamp) o.kind o.key = false;rw [<- o1,<- hky]; exact q3
   ·show t.work.ans = { shAns (Rt t.work.ans.stamp) o.kind o.key o.spans with stamp:=t.work.ans.stamp };have : shAns (Rt t.work.ans.stamp) o.kind o.key o.spans = {}:=by
     unfold shAns;rw [if_neg (by omega),if_neg (by omega),<- o1,<- hky,q3]
     rfl
    rw [this];generalize t.work.ans.stamp = s at *;rw [q4]
  ·right; right;have e7:=hw.e7 hk (by omega) (by rw [q]);refine ⟨by show t.work.ans = { err:=t.work.ans.err }; rw [q],.inl ⟨by show t.work.ans.err = 7; rw [q],hko,e7⟩⟩
  ·right; right;have e8:=hw.e8 hk (by omega) (by rw [q]);refine ⟨by show t.work.ans = { err:=t.work.ans.err }; rw [q],.inr (.inl ⟨by show t.work.ans.err = 8; rw [q],hko,e8⟩)⟩
 ·have hr : t.work.kind = 3\/t.work.kind = 4:=by omega
  have hko : ¬ (o.kind = 1\/o.kind = 2):=by rw [<- o1]; exact hk
  have htk : tookD ⟨o,t.work.ans,av,f⟩ = false:=by unfold tookD; simp only [hko,decide_false,Bool.false_and]
  have han:=(hR i t ht).an hb hr h13;obtain ⟨r1,r2⟩:=hw.rt hr (by omega);have htm:=((h.th i t ht).tm hb (by omega)).1;have hupd : shUpd (Rt t.work.time) o.kind o.key = false:=by
   unfold shUpd;simp only [not_or] at hko;simp [hko.1,hko.2]
  by_cases h3 : t.work.kind = 3
  ·rw [readAns3 _ _ h3] at han;have hst : t.work.ans.stamp = t.work.time:=by rw [han]
   refine ⟨.inr (.inl ⟨by show 0<=t.work.ans.stamp; omega,by show t.work.ans.stamp<=_; omega,by show shUpd (Rt t.work.ans.stamp) o.kind o.key = false; rw [hst]; exact hupd,by show t.work.ans.err = 0; rw [han],?_⟩),fun _=>by rw [htk,hst]; exact r2⟩;show t.work.ans = { shAns (Rt t.work.ans.stamp) o.kind o.key o.spans with stamp:=t.work.ans.stamp };rw [hst,han];unfold shAns;rw [if_neg (by omega),if_pos (by omega),<- o2 (by omega)]
  ·have h4 : t.work.kind = 4:=by omega
   rw [readAns4 _ _ h3] at han;unfold answerOf at han;by_cases hl : lensOf (spanLists t.work.spans (Rt t.work.time)) > 64
   ·rw [if_pos hl] at han;refine ⟨.inr (.inr ⟨by show t.work.ans = { err:=t.work.ans.err }; rw [han],.inr (.inr ⟨by show t.work.ans.err = 9; rw [han],by show o.kind = 4; omega,?_⟩)⟩),fun he=>by rw [han] at he; exact absurd he (by decide)⟩;show 64 < (o.spans.length : Int) * puts;have hle:=lens_le (Rt t.work.time) t.work.spans;have hln:=hn.ln t.work.time r1 htm;rw [<- o4 h4]
    have:=Int.mul_le_mul_of_nonneg_left (show ((Rt t.work.time).length : Int)<=puts by omega) (show (0 : Int)<=t.work.spans.length by omega)
    omega
   ·rw [if_neg hl] at han;have hst : t.work.ans.stamp = t.work.time:=by rw [han]
    refine ⟨.inr (.inl ⟨by show 0<=t.work.ans.stamp; omega,by show t.work.ans.stamp<=_; omega,by show shUpd (Rt t.work.ans.stamp) o.kind o.key = false; rw [hst]; exact hupd,by show t.work.ans.err = 0; rw [han],?_⟩),fun _=>by rw [htk,hst]; exact r2⟩;show t.work.ans = { shAns (Rt t.work.ans.stamp) o.kind o.key o.spans with stamp:=t.work.ans.stamp };rw [hst,han];unfold shAns answerOf;rw [if_pos (by omega),<- o4 h4,if_neg hl]
end
end
section
structure OrdC (Rt : Int->List (Int × Int)) (u : Int->Int × Int × Int) (N E L : Int) (D : PlD) : Prop where
 c0 : 0<=D.P.clock
 r0 : Rt 0 = []
 rs : ∀ s,1<=s->s<=D.P.clock->Rt s = shNew (Rt (s - 1)) (u s).1 (u s).2.1 (u s).2.2
 nm : Nums Rt D.P D.puts D.takes
 us : Used D.P D.puts D.takes
 sd : ∀ (j : Nat) w,D.P.ts[j]? = some w->Said Rt u D.P.clock w
 wt : ∀ (j : Nat) w o f,D.P.ts[j]? = some w->w.busy = true->D.ops[j]? = some o->D.frm[j]? = some f->WT D.deeds N E L D.puts D.takes w.work o f
 fd : ∀ (n : Nat) d,D.deeds[n]? = some d->FairD Rt D.P.clock N E L D.puts D.takes d
 td : ∀ (n : Nat) d,D.deeds[n]? = some d->0<=d.frm/\d.frm<=n/\(d.a.err = 0->Tm D.deeds d.a.stamp d.frm (tookD d))
 sc : ∀ s,(count (tkD s) D.deeds : Int) + count (tkT s) D.P.ts = if 1<=s/\s<=D.P.clock then 1 else 0
 sm : ∀ T,0<=T->T<=D.P.clock->(Rt T).length<=N.toNat + 2
 pd : ∀ (n : Nat) d,D.deeds[n]? = some d->properB d.op.kind d.op.key d.op.spans = true
structure OrdJ (T N E L : Int) (D : PlD) : Prop where
 ex : ∃ C Rt Vt u,Inv C D.P/\InvV C Rt Vt D.P/\InvR Rt Vt D.P/\OrdC Rt u N E L D
 len : D.P.mem.ns.length = N.toNat + 2
 eln : D.P.mem.es.length = E.toNat
 lim : D.P.limit = L
 pos : 0<=N/\0<=E
 ok : D.ok
 cfg : D.k = 0/\D.t = T/\D.n = N/\D.e = E/\D.l = L
section
variable {C : Int->Prop} {Rt : Int->List (Int × Int)} {Vt : Int->Int->Prop} {u : Int->Int × Int × Int} {P : PSt} {i : Nat} {t t' : PThread} {puts takes N E L T f s c : Int} {ds : List DeedV} {o : OpV} {k : PWork} {d : DeedV} {D D' : PlD}
theorem step_limit (P : PSt) (i : Nat) (t : PThread) : (P.step i t).1.limit = P.limit:=by
 unfold PSt.step;split
 ·rfl
 ·rfl
 ·rfl
 ·rfl
 ·split
  ·unfold PSt.read;simp only;split <;> rfl
  ·unfold PSt.update;split
   ·rfl
   ·unfold PSt.lock;split
    ·split <;> rfl
    ·rfl
   ·unfold PSt.check;split
    ·rfl
    ·split <;> rfl
   ·unfold PSt.prepare;split <;> rfl
   ·unfold PSt.take;split
    ·rfl
    ·simp only;split <;> rfl
   ·rfl
   ·rfl
   ·rfl
   ·unfold PSt.unlock; rfl
   ·rfl
theorem sweep_clk (P : PSt) : P.doSweep.1.clock = P.clock:=by
 unfold PSt.doSweep;simp only;split
 ·rfl
 ·split
  ·split <;> rfl
  ·split <;> rfl
theorem cnt_app {α : Type} (p : α->Bool) (l : List α) (x : α) : count p (l ++ [x]) = count p l + (if p x then 1 else 0):=by
 unfold count;rw [List.filter_append,List.length_append];cases h : p x <;> simp [h]
theorem get_app {l : List DeedV} {x : DeedV} {n : Nat} {d : DeedV} (h : (l ++ [x])[n]? = some d) : l[n]? = some d\/(n = l.length/\d = x):=by
 rcases Nat.lt_or_ge n l.length with q | q
 ·rw [List.getElem?_append_left q] at h; exact .inl h
 ·rw [List.getElem?_append_right q] at h;have hn : n - l.length < 1:=by have:=(List.getElem?_eq_some_iff.1 h).1; simpa using this
  have h0 : n - l.length = 0:=by omega
  rw [h0] at h;simp at h;exact .inr ⟨by omega,h.symm⟩
theorem nodup_sub {α : Type} [DecidableEq α] : ∀ (R Q : List α),R.Nodup->(∀ x ∈ R,x ∈ Q)->R.length<=Q.length
 | [],_,_,_=>Nat.zero_le _
 | x :: R,Q,hn,hs=>by
  obtain ⟨h1,h2⟩:=List.nodup_cons.1 hn;have hx:=hs x (by simp)
  have:=nodup_sub R (Q.erase x) h2 (fun y hy=>(List.mem_erase_of_ne (fun e=>h1 (by rw [<- e]; exact hy))).2 (hs y (by simp [hy])))
  rw [List.length_erase_of_mem hx] at this
  have:=List.length_pos_of_mem hx
  simp only [List.length_cons];omega
theorem us_range {M : PMem} {x : Int} (h : Us M x) : 0<=x/\x < M.ns.length:=by
 have h' : (M.node x).used = true:=h;unfold PMem.node at h';split at h'
 ·next hh =>
  unfold PMem.hasNode at hh;rw [isIn_iff] at hh;omega
 ·cases h'
theorem Ver.len {M : PMem} {ts : List PThread} {R : List (Int × Int)} {V : Int->Prop} {T : Int} (h : Ver M ts R V T) : R.length<=M.ns.length:=by
 have hn : R.Nodup:=h.srt.imp (fun {a b} hab e=>by rw [e] at hab; omega)
 have:=nodup_sub R ((List.range M.ns.length).map (fun n : Nat=>(Ky M (n : Int),(M.node (n : Int)).value))) hn (fun p hp=>by
  obtain ⟨x,hx,rfl⟩:=(h.a p).1 hp;obtain ⟨hu,_⟩:=h.d x hx;obtain ⟨b1,b2⟩:=us_range hu;refine List.mem_map.2 ⟨x.toNat,List.mem_range.2 (by omega),?_⟩;rw [show ((x.toNat : Nat) : Int) = x by omega])
 simpa using this
theorem OrdJ.step (h : OrdJ T N E L D) (ht : D.P.ts[i]? = some t) (hb : t.busy = true) (hs : Stepped D i t D') : OrdJ T N E L D':=by
 obtain ⟨C,Rt,Vt,u,hC,hV,hR,hO⟩:=h.ex;have hi:=(List.getElem?_eq_some_iff.1 ht).1;have hp:=h.pos;have hlen:=h.len;have heln:=h.eln;obtain ⟨t',s1,s2,s3⟩:=step_work hC.kind ht hb;refine ⟨?_,by rw [hs.P,step_len hC.kind]; exact h.len,by rw [hs.P,(hC.ents ht hb).ln]; exact h.eln,by rw [hs.P,step_limit]; exact h.lim,hp,ok_step hC.kind h.ok ht hb hs,cfg_trans hs.cfg h.cfg⟩;have old : ∀ (j : Nat) w,(D.P.step i t).1.ts[j]? = some w->(j = i/\w = t')\/(j≠i/\D.P.ts[j]? = some w):=by
  intro j w hw;rw [s1,List.getElem?_set] at hw;by_cases e : i = j
  ·subst e; simp [hi] at hw; exact .inl ⟨rfl,hw.symm⟩
  ·rw [if_neg e] at hw; exact .inr ⟨fun q=>e q.symm,hw⟩
 have hdc : ∀ e ∈ D.deeds,e.a.stamp<=D.P.clock:=by
  intro e he;obtain ⟨n,hn⟩:=List.mem_iff_getElem?.1 he;exact (hO.fd n e hn).le hO.c0
 have htk:=fun s=>hC.tkStep (s:=s) ht hb s1
 have hfl:=fun s=>count_flip (tkT s) t' ht
 rcases hV.step hC ht hb with ⟨hc,qV⟩ | ⟨h8,hk,hl,hc,qV,_⟩
 ·refine ⟨nextC C t,Rt,Vt,u,by rw [hs.P]; exact hC.step ht hb,by rw [hs.P]; exact qV,by rw [hs.P]; exact hR.step hV hC ht hb (fun _ _=>⟨rfl,rfl⟩),?_⟩;have nm:=(hO.nm.step hC ht hb hO.c0).1 hc;have us:=hO.us.step hC ht hb;have sd:=(Said.step hO.sd hV hC hO.c0 ht hb).1 hc;by_cases e3 : (D.P.step i t).2 = 3
  ·obtain ⟨av,o,f,g1,g2,g3⟩:=hs.deeds.2 e3;have h13:=three_next e3;have hwt:=hO.wt i t o f ht hb g1 g2;obtain ⟨q1,q2⟩:=end_fair hC hR (hO.sd i t ht) hwt hO.rs hO.nm ht hb h13 av;refine ⟨by rw [hs.P,hc]; exact hO.c0,hO.r0,by rw [hs.P,hc]; exact hO.rs,by rw [hs.P,hs.cnt.1,hs.cnt.2]; exact nm,by rw [hs.P,hs.cnt.1,hs.cnt.2]; exact us,by rw [hs.P,hc]; exact sd,?_,?_,?_,?_,by rw [hs.P,hc]; exact hO.sm,?_⟩
   ·intro j w oo ff hj hwb ho hf;rw [hs.P] at hj;rw [hs.ops] at ho;rw [hs.frm] at hf;rw [g3,hs.cnt.1,hs.cnt.2];rcases old j w hj with ⟨_,rfl⟩ | ⟨_,q⟩
    ·rw [s2 e3] at hwb; cases hwb
    ·exact (hO.wt j w oo ff q hwb ho hf).app _
   ·intro n d hd;rw [g3] at hd;rw [hs.P,hc,hs.cnt.1,hs.cnt.2];rcases get_app hd with q | ⟨_,rfl⟩
    ·exact hO.fd n d q
    ·exact q1
   ·intro n d hd;rw [g3] at hd ⊢;rcases get_app hd with q | ⟨rfl,rfl⟩
    ·obtain ⟨a,b,c⟩:=hO.td n d q;have hn:=(List.getElem?_eq_some_iff.1 q).1;exact ⟨a,b,fun z=>(c z).app (by omega) _⟩
    ·exact ⟨hwt.f0.1,hwt.f0.2,fun z=>(q2 z).app hwt.f0.2 _⟩
   ·intro s;obtain ⟨_,k2,k3⟩:=(htk s).1 e3;have hfl:=hfl s;rw [k2] at hfl;simp only [Bool.false_eq_true,if_false] at hfl;rw [hs.P,hc,g3,s1,cnt_app];have hkk : tkD s ⟨o,t.work.ans,av,f⟩ = tkT s t:=by
     rw [k3];unfold tkD tookD;rw [hwt.op.1]
    rw [hkk]
    have:=hO.sc s
    omega
   ·intro n d hd;rw [g3] at hd;rcases get_app hd with q | ⟨_,rfl⟩
    ·exact hO.pd n d q
    ·exact hwt.pr
  ·have g3:=hs.deeds.1 e3;refine ⟨by rw [hs.P,hc]; exact hO.c0,hO.r0,by rw [hs.P,hc]; exact hO.rs,by rw [hs.P,hs.cnt.1,hs.cnt.2]; exact nm,by rw [hs.P,hs.cnt.1,hs.cnt.2]; exact us,by rw [hs.P,hc]; exact sd,?_,by rw [g3,hs.P,hc,hs.cnt.1,hs.cnt.2]; exact hO.fd,by rw [g3]; exact hO.td,?_,by rw [hs.P,hc]; exact hO.sm,by rw [g3]; exact hO.pd⟩
   ·intro j w oo ff hj hwb ho hf;rw [hs.P] at hj;rw [hs.ops] at ho;rw [hs.frm] at hf;rw [g3,hs.cnt.1,hs.cnt.2];rcases old j w hj with ⟨rfl,rfl⟩ | ⟨_,q⟩
    ·exact (hO.wt j t oo ff ht hb ho hf).step hC hO.nm hO.us ht hb hO.c0 hdc (by omega) (by omega) h.lim s1 hwb
    ·exact hO.wt j w oo ff q hwb ho hf
   ·intro s;rw [hs.P,hc,g3,s1];have hfl:=hfl s;rcases (htk s).2 e3 with ⟨_,q⟩ | ⟨q,_⟩
    ·rw [q] at hfl
     have:=hO.sc s
     omega
    ·omega
 ·have e3 : (D.P.step i t).2≠3:=fun q=>by have:=three_next q; omega
  have g3:=hs.deeds.1 e3;have hold : ∀ T,T<=D.P.clock->nextR Rt D.P t T = Rt T/\nextV Vt D.P t T = Vt T:=by
   intro T hT;unfold nextR nextV;rw [if_neg (by omega),if_neg (by omega)];exact ⟨rfl,rfl⟩
  have nm:=(hO.nm.step hC ht hb hO.c0).2 hc;have us:=hO.us.step hC ht hb;have sd:=(Said.step hO.sd hV hC hO.c0 ht hb).2 hc;have c0:=hO.c0;refine ⟨nextC C t,nextR Rt D.P t,nextV Vt D.P t,nextU u D.P t,by rw [hs.P]; exact hC.step ht hb,by rw [hs.P]; exact qV,by rw [hs.P]; exact hR.step hV hC ht hb hold,?_⟩;refine ⟨by rw [hs.P,hc]; omega,by rw [(hold 0 c0).1]; exact hO.r0,?_,by rw [hs.P,hs.cnt.1,hs.cnt.2]; exact nm,by rw [hs.P,hs.cnt.1,hs.cnt.2]; exact us,by rw [hs.P,hc]; exact sd,?_,?_,by rw [g3]; exact hO.td,?_,?_,by rw [g3]; exact hO.pd⟩
  ·rw [hs.P,hc];intro s h1 h2;by_cases e : s = D.P.clock + 1
   ·have e1 : nextR Rt D.P t (s - 1) = Rt D.P.clock:=by rw [(hold (s - 1) (by omega)).1]; congr 1; omega
    have e2 : nextU u D.P t s = (t.work.kind,t.work.key,t.work.value):=by unfold nextU; rw [if_pos e]
    rw [e1,e2];unfold nextR; rw [if_pos e]
   ·have e2 : nextU u D.P t s = u s:=by unfold nextU; rw [if_neg e]
    rw [(hold s (by omega)).1,(hold (s - 1) (by omega)).1,e2];exact hO.rs s h1 (by omega)
  ·intro j w oo ff hj hwb ho hf;rw [hs.P] at hj;rw [hs.ops] at ho;rw [hs.frm] at hf;rw [g3,hs.cnt.1,hs.cnt.2];rcases old j w hj with ⟨rfl,rfl⟩ | ⟨_,q⟩
   ·exact (hO.wt j t oo ff ht hb ho hf).step hC hO.nm hO.us ht hb hO.c0 hdc (by omega) (by omega) h.lim s1 hwb
   ·exact hO.wt j w oo ff q hwb ho hf
  ·intro n d hd;rw [g3] at hd;rw [hs.P,hc,hs.cnt.1,hs.cnt.2];exact (hO.fd n d hd).more
  ·intro s;rw [hs.P,hc,g3,s1];have hfl:=hfl s;have hsc:=hO.sc s;rcases (htk s).2 e3 with ⟨q,_⟩ | ⟨_,q1,q2⟩
   ·omega
   ·rw [q1,q2] at hfl;simp only [Bool.false_eq_true,if_false,decide_eq_true_eq] at hfl;by_cases e : s = D.P.clock + 1
    ·rw [if_pos e] at hfl;rw [if_neg (by omega)] at hsc;rw [if_pos (by omega)];omega
    ·rw [if_neg e] at hfl;by_cases e2 : 1<=s/\s<=D.P.clock
     ·rw [if_pos e2] at hsc;rw [if_pos (by omega)];omega
     ·rw [if_neg e2] at hsc;rw [if_neg (by omega)];omega
  ·rw [hs.P,hc];intro T h1 h2;by_cases e : T = D.P.clock + 1
   ·subst e;have hnow:=qV.now;rw [hc] at hnow
    have:=hnow.len
    rw [step_len hC.kind] at this;omega
   ·rw [(hold T (by omega)).1]; exact hO.sm T h1 (by omega)
theorem OrdJ.begin (h : OrdJ T N E L D) (ht : D.P.ts[i]? = some t) (hB : Begun D i t o D') : OrdJ T N E L D':=by
 obtain ⟨C,Rt,Vt,u,hC,hV,hR,hO⟩:=h.ex;have hi:=(List.getElem?_eq_some_iff.1 ht).1;obtain ⟨g1,g2⟩:=inv_begin hC ht hB;by_cases hh : t.busy = true\/properB o.kind o.key o.spans = false
 ·obtain ⟨q1,_,q3,q4,q5,q6⟩:=hB.no hh;refine ⟨⟨C,Rt,Vt,u,g1,by rw [q1]; exact hV,by rw [q1]; exact hR,?_⟩,by rw [q1]; exact h.len,by rw [q1]; exact h.eln,by rw [q1]; exact h.lim,h.pos,ok_begin h.ok hB,cfg_trans hB.cfg h.cfg⟩;exact ⟨by rw [q1]; exact hO.c0,hO.r0,by rw [q1]; exact hO.rs,by rw [q1,q5,q6]; exact hO.nm,by rw [q1,q5,q6]; exact hO.us,by rw [q1]; exact hO.sd,by rw [q1,q3,q4,q5,q6,hB.deeds]; exact hO.wt,by rw [q1,q5,q6,hB.deeds]; exact hO.fd,by rw [hB.deeds]; exact hO.td,by rw [q1,hB.deeds]; exact hO.sc,by rw [q1]; exact hO.sm,by rw [hB.deeds]; exact hO.pd⟩
 ·simp only [not_or,Bool.not_eq_true,Bool.not_eq_false] at hh;obtain ⟨q1,_,q3,q4,q5,q6⟩:=hB.yes hh.1 hh.2;obtain ⟨w1,w2,w3,_,_,w6,w7,_,w9⟩:=newWork_ok (va:=o.value) hh.2;obtain ⟨r1,r2⟩:=newWork_rd (va:=o.value) hh.2;have hp : D.puts<=D'.puts:=by rw [q5]; split <;> omega
  have hq : D.takes<=D'.takes:=by rw [q6]; split <;> omega
  have hck : D'.P.clock = D.P.clock:=by rw [q1]; rfl
  have hts : D'.P.ts = D.P.ts.set i { t with busy:=true,work:=newWork o.kind o.key o.value o.spans }:=by rw [q1]; rfl
  have old : ∀ (j : Nat) w,D'.P.ts[j]? = some w->(j = i/\w = { t with busy:=true,work:=newWork o.kind o.key o.value o.spans })\/(j≠i/\D.P.ts[j]? = some w):=by
   intro j w hw;rw [hts,List.getElem?_set] at hw;by_cases e : i = j
   ·subst e; simp [hi] at hw; exact .inl ⟨rfl,hw.symm⟩
   ·rw [if_neg e] at hw; exact .inr ⟨fun q=>e q.symm,hw⟩
  have idle : ∀ (p : PThread->Bool),p t = false->(p { t with busy:=true,work:=newWork o.kind o.key o.value o.spans } = true->count p D'.P.ts = count p D.P.ts + 1)/\(p { t with busy:=true,work:=newWork o.kind o.key o.value o.spans } = false->count p D'.P.ts = count p D.P.ts):=by
   intro p hp
   have:=count_flip p { t with busy:=true,work:=newWork o.kind o.key o.value o.spans } ht
   rw [hp] at this;rw [hts];refine ⟨fun q=>?_,fun q=>?_⟩
   ·rw [q] at this; simp only [Bool.false_eq_true,if_false,if_true] at this; omega
   ·rw [q] at this; simp only [Bool.false_eq_true,if_false,if_true] at this; omega
  have hnx : ∀ m : Nat,1<=m->(newWork o.kind o.key o.value o.spans).next<=m:=by intro m hm; omega
  have c8:=idle bu8 (by unfold bu8; rw [hh.1]; rfl);have ci:=idle bi8 (by unfold bi8; rw [hh.1]; rfl);have c7:=idle bi7 (by unfold bi7; rw [hh.1]; rfl);have cr:=idle br7 (by unfold br7; rw [hh.1]; rfl);have v8 : bu8 { t with busy:=true,work:=newWork o.kind o.key o.value o.spans } = decide (o.kind = 1\/o.kind = 2):=by unfold bu8; simp only [w1,w2]; simp
  have vi : bi8 { t with busy:=true,work:=newWork o.kind o.key o.value o.spans } = decide (o.kind = 1):=by unfold bi8; simp only [w1,w2]; simp
  have v7 : bi7 { t with busy:=true,work:=newWork o.kind o.key o.value o.spans } = decide (o.kind = 1):=by unfold bi7; simp only [w1,w2]; simp
  have vr : br7 { t with busy:=true,work:=newWork o.kind o.key o.value o.spans } = decide (o.kind = 2):=by unfold br7; simp only [w1,w2]; simp
  rw [v8] at c8;rw [vi] at ci;rw [v7] at c7;rw [vr] at cr;simp only [decide_eq_true_eq,decide_eq_false_iff_not] at c8 ci c7 cr;refine ⟨⟨C,Rt,Vt,u,g1,by rw [q1]; exact hV.begin ht hh.1 w1,by rw [q1]; exact hR.begin ht w1 r1 r2,?_⟩,by rw [g2]; exact h.len,by rw [g2]; exact h.eln,by rw [q1]; exact h.lim,h.pos,ok_begin h.ok hB,cfg_trans hB.cfg h.cfg⟩;have hnm:=hO.nm.ck;have hus:=hO.us;refine ⟨by rw [hck]; exact hO.c0,hO.r0,by rw [hck]; exact hO.rs,⟨?_,?_⟩,⟨?_,?_⟩,?_,?_,?_,by rw [hB.deeds]; exact hO.td,?_,by rw [hck]; exact hO.sm,by rw [hB.deeds]; exact hO.pd⟩
  ·rw [hck,q5,q6];by_cases e1 : o.kind = 1
   ·have:=c8.1 (.inl e1); rw [if_pos e1,if_neg (by omega)]; omega
   ·by_cases e2 : o.kind = 2
    ·have:=c8.1 (.inr e2); rw [if_neg e1,if_pos e2]; omega
    ·have:=c8.2 (by omega); rw [if_neg e1,if_neg e2]; omega
  ·intro T h1 h2;rw [hck] at h2
   have:=hO.nm.ln T h1 h2
   rw [q5];by_cases e1 : o.kind = 1
   ·have:=ci.1 e1; rw [if_pos e1]; omega
   ·have:=ci.2 e1; rw [if_neg e1]; omega
  ·have:=hus.n
   rw [g2,q5];by_cases e1 : o.kind = 1
   ·have:=c7.1 e1; rw [if_pos e1]; omega
   ·have:=c7.2 e1; rw [if_neg e1]; omega
  ·have:=hus.e
   rw [g2,q5,q6];by_cases e1 : o.kind = 1
   ·have:=c7.1 e1; have:=cr.2 (by omega); rw [if_pos e1,if_neg (by omega)]; omega
   ·have:=c7.2 e1
    by_cases e2 : o.kind = 2
    ·have:=cr.1 e2; rw [if_neg e1,if_pos e2]; omega
    ·have:=cr.2 e2; rw [if_neg e1,if_neg e2]; omega
  ·rw [hck];intro j w hw;rcases old j w hw with ⟨_,rfl⟩ | ⟨_,q⟩
   ·refine ⟨fun _ _ q=>?_,fun _ _ q=>?_⟩
    ·have : 9<=(newWork o.kind o.key o.value o.spans).next:=q; omega
    ·have : 12<=(newWork o.kind o.key o.value o.spans).next:=q; omega
   ·exact hO.sd j w q
  ·intro j w oo ff hj hwb ho hf;rw [hB.deeds];rw [q3] at ho;rw [q4] at hf;rcases old j w hj with ⟨rfl,rfl⟩ | ⟨hne,q⟩
   ·rw [List.getElem?_set] at ho hf;rw [if_pos rfl] at ho hf;split at ho
    ·split at hf
     ·injection ho with ho; injection hf with hf
      subst ho; subst hf;refine ⟨⟨w2,fun e=>?_,fun e=>w9 (w2.symm.trans e),fun e=>(w7 (w2.symm.trans e)).2.2⟩,hh.2,⟨by omega,Int.le_refl _⟩,fun _ q=>?_,fun _ q=>?_,fun _ q=>?_,fun _ q=>?_⟩
      ·exact (w6 (fun q=>e (w2.trans q))).2.2
      ·have : 3<=(newWork o.kind o.key o.value o.spans).next:=q; omega
      ·have : 9<=(newWork o.kind o.key o.value o.spans).next:=q; omega
      ·have : 9<=(newWork o.kind o.key o.value o.spans).next:=q; omega
      ·have : 9<=(newWork o.kind o.key o.value o.spans).next:=q; omega
     ·cases hf
    ·cases ho
   ·rw [List.getElem?_set_ne (fun q=>hne q.symm)] at ho hf;exact (hO.wt j w oo ff q hwb ho hf).begun hp hq
  ·intro n d hd;rw [hB.deeds] at hd;rw [hck];exact (hO.fd n d hd).begun hp hq
  ·intro s;rw [hB.deeds,hck,((idle (tkT s) (tkT_idle hh.1)).2 (tkT_low (hnx 8 (by omega))))];exact hO.sc s
theorem OrdJ.sweep (h : OrdJ T N E L D) (L' : ZLay) : OrdJ T N E L { D with L:=L',P:=D.P.doSweep.1 }:=by
 obtain ⟨C,Rt,Vt,u,hC,hV,hR,hO⟩:=h.ex;refine ⟨⟨C,Rt,Vt,u,hC.sweep,hV.sweep hC,hR.sweep hV hC,?_⟩,by show D.P.doSweep.1.mem.ns.length = _; rw [sweep_len]; exact h.len,by show D.P.doSweep.1.mem.es.length = _; rw [(sweep_eln D.P).1]; exact h.eln,by show D.P.doSweep.1.limit = _; rw [(sweep_eln D.P).2]; exact h.lim,h.pos,?_,h.cfg⟩
 ·refine ⟨by show 0<=D.P.doSweep.1.clock; rw [sweep_clk]; exact hO.c0,hO.r0,by show ∀ s,1<=s->s<=D.P.doSweep.1.clock->_; rw [sweep_clk]; exact hO.rs,⟨?_,?_⟩,hO.us.sweep,?_,?_,?_,hO.td,?_,?_,hO.pd⟩
  ·show D.P.doSweep.1.clock + (count bu8 D.P.doSweep.1.ts : Nat)<=_;rw [sweep_clk,sweep_ts]; exact hO.nm.ck
  ·show ∀ T,0<=T->T<=D.P.doSweep.1.clock->((Rt T).length : Int) + (count bi8 D.P.doSweep.1.ts : Nat)<=_;rw [sweep_clk,sweep_ts]; exact hO.nm.ln
  ·show ∀ (j : Nat) w,D.P.doSweep.1.ts[j]? = some w->Said Rt u D.P.doSweep.1.clock w;rw [sweep_clk,sweep_ts]; exact hO.sd
  ·show ∀ (j : Nat) w o f,D.P.doSweep.1.ts[j]? = some w->_;rw [sweep_ts]; exact hO.wt
  ·show ∀ (n : Nat) d,D.deeds[n]? = some d->FairD Rt D.P.doSweep.1.clock N E L D.puts D.takes d;rw [sweep_clk]; exact hO.fd
  ·show ∀ s,(count (tkD s) D.deeds : Int) + (count (tkT s) D.P.doSweep.1.ts : Nat) = if 1<=s/\s<=D.P.doSweep.1.clock then 1 else 0
   rw [sweep_clk,sweep_ts]; exact hO.sc
  ·show ∀ T,0<=T->T<=D.P.doSweep.1.clock->(Rt T).length<=N.toNat + 2;rw [sweep_clk]; exact hO.sm
 ·show D.bs = D.P.doSweep.1.ts.map (·.busy);rw [sweep_ts]; exact h.ok
theorem OrdJ.fresh (hN : 0<=N) (hE : 1<=E) (h : FreshPl T N E L D) : OrdJ T N E L D:=by
 obtain ⟨h1,h2⟩:=inv_fresh (T:=T) (N:=N) (L:=L) hE;have hX:=invx_fresh (T:=T) (N:=N) (L:=L) hE;have hts : ∀ t ∈ (freshP 0 T N E L).ts,t = PThread.zero:=fun t ht=>(List.mem_replicate.1 ht).2
 have hid : ∀ t ∈ (freshP 0 T N E L).ts,t.busy = false:=fun t ht=>by rw [hts t ht]; rfl
 have hV:=InvV.none h1 hX hid (fun x q=>q);obtain ⟨en,hen⟩ : ∃ en : Nat,E.toNat = en + 1:=⟨E.toNat - 1,by omega⟩;have hm : (freshP 0 T N E L).mem = freshMem N.toNat (en + 1):=by rw [<- hen]; rfl
 rw [fresh_mem] at hm;have cz : ∀ (p : PThread->Bool),p PThread.zero = false->count p (freshP 0 T N E L).ts = 0:=by
  intro p hp;unfold count;rw [List.filter_eq_nil_iff.2]
  ·rfl
  ·intro t ht; rw [hts t ht,hp]; decide
 have hun : un (freshP 0 T N E L).mem<=2:=by
  rw [hm];unfold un count;have : (List.replicate N.toNat PNode.zero).filter (fun x : PNode=>x.used) = []:=List.filter_eq_nil_iff.2 (fun x hx=>by rw [(List.mem_replicate.1 hx).2]; decide);rw [List.filter_cons,List.filter_cons,this];split <;> split <;> simp
 have hue : ue (freshP 0 T N E L).mem<=1:=by
  rw [hm];unfold ue count;have : (List.replicate en PEntry.zero).filter (fun x : PEntry=>x.used) = []:=List.filter_eq_nil_iff.2 (fun x hx=>by rw [(List.mem_replicate.1 hx).2]; decide);rw [List.filter_cons,this];split <;> simp
 refine ⟨⟨_,_,_,fun _=>(0,0,0),by rw [h.P]; exact h1,by rw [h.P]; exact hV,by rw [h.P]; exact InvR.init hid,?_⟩,by rw [h.P]; exact h2,?_,by rw [h.P]; rfl,⟨hN,by omega⟩,h.ok,h.cfg⟩
 ·have hc : D.P.clock = 0:=by rw [h.P]; rfl
  refine ⟨by omega,rfl,fun s q1 q2=>by omega,⟨?_,?_⟩,⟨?_,?_⟩,?_,?_,?_,?_,?_,fun _ _ _=>Nat.zero_le _,by rw [h.deeds]; intro n d hd; simp at hd⟩
  ·rw [hc,h.P,cz bu8 rfl,h.cnt.1,h.cnt.2]; decide
  ·intro _ _ _;rw [h.P,cz bi8 rfl,h.cnt.1]; decide
  ·rw [h.P,cz bi7 rfl,h.cnt.1]; omega
  ·rw [h.P,cz bi7 rfl,cz br7 rfl,h.cnt.1,h.cnt.2]; omega
  ·rw [h.P];intro j w hw
   have:=hid w (List.mem_of_getElem? hw)
   exact ⟨(fun b=>by rw [this] at b; exact nomatch b),(fun b=>by rw [this] at b; exact nomatch b)⟩
  ·rw [h.P];intro j w _ _ hw b;rw [hid w (List.mem_of_getElem? hw)] at b; cases b
  ·rw [h.deeds]; intro n d hd; simp at hd
  ·rw [h.deeds]; intro n d hd; simp at hd
  ·intro s;rw [h.deeds,h.P,cz (tkT s) rfl,if_neg (by rw [<- h.P,hc]; omega)]
   rfl
 ·rw [h.P,hm];simp [hen]
theorem ord_plays : Plays 0 T N E L (OrdJ T N E L):=by
 refine ⟨fun h=>by obtain ⟨C,_,_,_,h1,_⟩:=h.ex; exact ⟨C,h1⟩,fun h=>h.len,fun h=>h.ok,fun h=>h.cfg,fun h _ ht hb _ hs=>h.step ht hb hs,fun h ht _ hB=>h.begin ht hB,fun L' h=>h.sweep L',fun _ h=>by omega⟩
end
end
section
def rk (d : DeedV) : Int:=2 * d.a.stamp + (if tookD d then 0 else 1)
def aheadD (a b : DeedV) : Bool:=if a.a.stamp≠b.a.stamp then decide (a.a.stamp < b.a.stamp) else (tookD a && !tookD b)
structure OrdL (ds : List DeedV) (i : Nat) (l : List (DeedV × Nat)) : Prop where
 mem : ∀ d n,(d,n) ∈ l ↔ n < i/\ds[n]? = some d/\d.a.err = 0
 srt : l.Pairwise (fun x y=>rk x.1<=rk y.1/\(rk x.1 < rk y.1\/x.2 < y.2))
def Pre (A : List (DeedV × Nat)) (c : Int) : Prop:=0<=c/\(∀ x ∈ A,tookD x.1 = true->x.1.a.stamp<=c)/\(∀ s,1<=s->s<=c->∃ x ∈ A,tookD x.1 = true/\x.1.a.stamp = s)
structure FairEnd (Rt : Int->List (Int × Int)) (ds : List DeedV) (c N E L puts takes : Int) : Prop where
 c0 : 0<=c
 r0 : Rt 0 = []
 fd : ∀ (n : Nat) d,ds[n]? = some d->FairD Rt c N E L puts takes d
 td : ∀ (n : Nat) d,ds[n]? = some d->0<=d.frm/\d.frm<=n/\(d.a.err = 0->Tm ds d.a.stamp d.frm (tookD d))
 sc : ∀ s,(count (tkD s) ds : Int) = if 1<=s/\s<=c then 1 else 0
 sm : ∀ T,0<=T->T<=c->(Rt T).length<=N.toNat + 2
 pd : ∀ (n : Nat) d,ds[n]? = some d->properB d.op.kind d.op.key d.op.spans = true
section
variable {Rt : Int->List (Int × Int)} {puts takes N E L T s c c' : Int} {ds : List DeedV} {d e : DeedV} {D : PlD} {A B : List (DeedV × Nat)} {i n m : Nat}
theorem ahead_rk (a b : DeedV) : aheadD a b = decide (rk a < rk b):=by
 unfold aheadD rk;by_cases h : a.a.stamp = b.a.stamp
 ·rw [if_neg (fun q=>q h),h];cases tookD a <;> cases tookD b <;> simp <;> omega
 ·rw [if_pos h];apply decide_eq_decide.2;cases tookD a <;> cases tookD b <;> simp <;> omega
theorem OrdL.none (ds : List DeedV) : OrdL ds 0 []:=⟨fun d n=>⟨fun q=>(List.not_mem_nil q).elim,fun q=>by omega⟩,List.Pairwise.nil⟩
theorem OrdL.skip {l : List (DeedV × Nat)} (h : OrdL ds i l) (hd : ds[i]? = some d) (he : d.a.err≠0) : OrdL ds (i + 1) l:=by
 refine ⟨fun x n=>?_,h.srt⟩;rw [h.mem];constructor
 ·rintro ⟨a,b⟩; exact ⟨by omega,b⟩
 ·rintro ⟨a,b,c⟩;refine ⟨?_,b,c⟩;rcases Nat.lt_or_ge n i with q | q
  ·exact q
  ·have : n = i:=by omega
   subst this;rw [hd] at b; injection b with b; subst b
   exact absurd c he
theorem OrdL.put (h : OrdL ds i (A ++ B)) (hd : ds[i]? = some d) (he : d.a.err = 0) (hB : ∀ b ∈ B,aheadD d b.1 = true) (hA : ∀ a,A.getLast? = some a->aheadD d a.1 = false) : OrdL ds (i + 1) (A ++ (d,i) :: B):=by
 refine ⟨fun x n=>?_,?_⟩
 ·have hm:=h.mem x n;simp only [List.mem_append,List.mem_cons,Prod.mk.injEq] at hm ⊢;constructor
  ·rintro (q | ⟨rfl,rfl⟩ | q)
   ·obtain ⟨a,b⟩:=hm.1 (.inl q); exact ⟨by omega,b⟩
   ·exact ⟨by omega,hd,he⟩
   ·obtain ⟨a,b⟩:=hm.1 (.inr q); exact ⟨by omega,b⟩
  ·rintro ⟨a,b,c⟩;rcases Nat.lt_or_ge n i with q | q
   ·rcases hm.2 ⟨q,b,c⟩ with z | z
    ·exact .inl z
    ·exact .inr (.inr z)
   ·have : n = i:=by omega
    subst this;rw [hd] at b; injection b with b; subst b
    exact .inr (.inl ⟨rfl,rfl⟩)
 ·have hs:=h.srt;rw [List.pairwise_append] at hs ⊢;obtain ⟨s1,s2,s3⟩:=hs;have hB' : ∀ b ∈ B,rk d < rk b.1:=fun b hb=>by have:=hB b hb; rw [ahead_rk] at this; exact of_decide_eq_true this
  have hA' : ∀ a ∈ A,rk a.1<=rk d:=by
   intro a ha;have hne : A≠[]:=fun q=>by rw [q] at ha; cases ha
   have hl:=hA (A.getLast hne) (List.getLast?_eq_some_getLast hne);rw [ahead_rk] at hl;have hl:=of_decide_eq_false hl;have e : A = A.dropLast ++ [A.getLast hne]:=(List.dropLast_concat_getLast hne).symm;rw [e] at s1 ha;rcases List.mem_append.1 ha with q | q
   ·have:=(List.pairwise_append.1 s1).2.2 a q _ (List.mem_singleton_self _)
    omega
   ·rw [List.mem_singleton.1 q]; omega
  refine ⟨s1,List.pairwise_cons.2 ⟨fun b hb=>?_,s2⟩,?_⟩
  ·have:=hB' b hb
   exact ⟨by show rk d<=_; omega,.inl this⟩
  ·intro a ha b hb;rcases List.mem_cons.1 hb with rfl | hb
   ·refine ⟨hA' a ha,.inr ?_⟩;exact ((h.mem a.1 a.2).1 (List.mem_append.2 (.inl ha))).1
   ·exact s3 a ha b hb
theorem cnt_two {α : Type} (p : α->Bool) : ∀ {l : List α} {n m : Nat} {a b : α},l[n]? = some a->l[m]? = some b->n≠m->p a = true->p b = true->2<=count p l
 | [],n,_,_,_,h,_,_,_,_=>by simp at h
 | x :: l,0,0,_,_,_,_,h,_,_=>absurd rfl h
 | x :: l,0,m + 1,a,b,h1,h2,_,pa,pb=>by
  simp only [List.getElem?_cons_zero,Option.some.injEq] at h1;subst h1
  have:=cnt_pos p (l:=l) (k:=m) (by simpa using h2) pb
  unfold count at *;simp [pa]; omega
 | x :: l,n + 1,0,a,b,h1,h2,_,pa,pb=>by
  simp only [List.getElem?_cons_zero,Option.some.injEq] at h2;subst h2
  have:=cnt_pos p (l:=l) (k:=n) (by simpa using h1) pa
  unfold count at *;simp [pb]; omega
 | x :: l,n + 1,m + 1,a,b,h1,h2,hn,pa,pb=>by
  have:=cnt_two p (l:=l) (n:=n) (m:=m) (by simpa using h1) (by simpa using h2) (by omega) pa pb
  unfold count at *;rw [List.filter_cons];split
  ·simp; omega
  ·exact this
theorem FairEnd.took (h : FairEnd Rt ds c N E L puts takes) (hd : ds[n]? = some d) (ht : tookD d = true) : okT Rt c d:=by
 rcases h.fd n d hd with q | q | q
 ·exact q
 ·rw [q.took] at ht; cases ht
 ·exfalso;unfold tookD at ht;rw [q.1] at ht;simp at ht
theorem FairEnd.uniq (h : FairEnd Rt ds c N E L puts takes) (hd : ds[n]? = some d) (he : ds[m]? = some e) (t1 : tookD d = true) (t2 : tookD e = true) (hs : d.a.stamp = e.a.stamp) : n = m:=by
 by_cases hne : n = m
 ·exact hne
 ·exfalso
  have:=cnt_two (tkD d.a.stamp) hd he hne (by unfold tkD; simp [t1]) (by unfold tkD; simp [t2,hs])
  have h1:=h.sc d.a.stamp;split at h1 <;> omega
theorem FairEnd.have (h : FairEnd Rt ds c N E L puts takes) (h1 : 1<=s) (h2 : s<=c) : ∃ (n : Nat) (d : DeedV),ds[n]? = some d/\tookD d = true/\d.a.stamp = s:=by
 have hc:=h.sc s;rw [if_pos ⟨h1,h2⟩] at hc;have : 0 < (ds.filter (tkD s)).length:=by unfold count at hc; omega
 obtain ⟨d,hd⟩:=List.exists_mem_of_length_pos this;obtain ⟨hm,hp⟩:=List.mem_filter.1 hd;obtain ⟨n,hn⟩:=List.mem_iff_getElem?.1 hm;unfold tkD at hp;simp only [Bool.and_eq_true,decide_eq_true_eq] at hp;exact ⟨n,d,hn,hp.1,hp.2⟩
theorem FairEnd.later (h : FairEnd Rt ds c N E L puts takes) (hl : OrdL ds ds.length (A ++ (d,n) :: B)) (hm : (e,m) ∈ B) : ¬ (m : Int) < d.frm:=by
 intro hlt;obtain ⟨_,m2,_⟩:=(hl.mem e m).1 (by simp [hm]);obtain ⟨_,n2,n3⟩:=(hl.mem d n).1 (by simp);obtain ⟨_,t2,t3⟩:=h.td n d n2;obtain ⟨q1,q2⟩:=t3 n3 m e hlt m2;have hs:=(List.pairwise_cons.1 (List.pairwise_append.1 hl.srt).2.1).1 (e,m) hm;unfold rk at hs;simp only at hs;cases td : tookD d
 ·rw [td] at hs q2;cases te : tookD e
  ·rw [te] at hs;simp at hs;omega
  ·rw [te] at hs;simp at hs;omega
 ·have:=q2 td
  rw [td] at hs;cases te : tookD e
  ·rw [te] at hs; simp at hs; omega
  ·rw [te] at hs; simp at hs; omega
theorem FairEnd.behind (h : FairEnd Rt ds c N E L puts takes) (hl : OrdL ds ds.length (A ++ (d,n) :: B)) (hp : Pre A c') (hc : c' + 1<=c) : (tookD d = true/\d.a.stamp = c' + 1)\/rk d<=2 * (c' + 1):=by
 obtain ⟨m,e,q1,q2,q3⟩:=h.have (s:=c' + 1) (by have:=hp.1; omega) hc;have hm:=(hl.mem e m).2 ⟨(List.getElem?_eq_some_iff.1 q1).1,q1,(h.took q1 q2).took.2⟩;rcases List.mem_append.1 hm with z | z
 ·have:=hp.2.1 _ z q2
  simp only at this;omega
 ·rcases List.mem_cons.1 z with z | z
  ·simp only [Prod.mk.injEq] at z;left;rw [<- z.1]; exact ⟨q2,q3⟩
  ·right;have hs:=((List.pairwise_cons.1 (List.pairwise_append.1 hl.srt).2.1).1 (e,m) z).1;simp only at hs;unfold rk at hs ⊢;rw [q2] at hs;simp only [if_true] at hs;omega
theorem FairEnd.next (h : FairEnd Rt ds c N E L puts takes) (hl : OrdL ds ds.length (A ++ (d,n) :: B)) (hp : Pre A c') :
  (if tookD d then d.a.stamp = c' + 1 else d.a.stamp = c')/\Pre (A ++ [(d,n)]) (if tookD d then c' + 1 else c')/\Rt (if tookD d then c' + 1 else c') = shNew (Rt c') d.op.kind d.op.key d.op.value/\d.a = { shAns (Rt c') d.op.kind d.op.key d.op.spans with stamp:=d.a.stamp }/\shUpd (Rt c') d.op.kind d.op.key = tookD d:=by
 obtain ⟨n1,n2,n3⟩:=(hl.mem d n).1 (by simp);obtain ⟨p0,p1,p2⟩:=hp;cases ht : tookD d
 ·simp only [Bool.false_eq_true,if_false];have hN : okN Rt c d:=by
   rcases h.fd n d n2 with q | q | q
   ·rw [q.took.1] at ht; cases ht
   ·exact q
   ·exact absurd n3 q.err.1
  obtain ⟨o1,o2,o3,o4,o5⟩:=hN;have hst : d.a.stamp = c':=by
   rcases Int.lt_trichotomy d.a.stamp c' with q | q | q
   ·exfalso;obtain ⟨x,x1,x2,x3⟩:=p2 c' (by omega) (Int.le_refl _);have hs:=((List.pairwise_append.1 hl.srt).2.2 x x1 (d,n) (by simp)).1;simp only at hs;unfold rk at hs;rw [x2,ht] at hs;simp at hs;omega
   ·exact q
   ·exfalso;rcases h.behind hl ⟨p0,p1,p2⟩ (by omega) with z | z
    ·rw [z.1] at ht; cases ht
    ·unfold rk at z;rw [ht] at z;simp at z;omega
  rw [hst] at o3 o5;refine ⟨hst,⟨p0,?_,?_⟩,?_,by rw [hst]; exact o5,o3⟩
  ·intro x hx hxt;rcases List.mem_append.1 hx with q | q
   ·exact p1 x q hxt
   ·rw [List.mem_singleton.1 q] at hxt;simp only at hxt;rw [ht] at hxt; cases hxt
  ·intro s s1 s2;obtain ⟨x,x1,x2⟩:=p2 s s1 s2;exact ⟨x,List.mem_append.2 (.inl x1),x2⟩
  ·unfold shNew;rw [o3]
   rfl
 ·simp only [if_true];obtain ⟨o0,o1,o2,o3,o4,o5⟩:=h.took n2 ht;have hst : d.a.stamp = c' + 1:=by
   rcases Int.lt_trichotomy d.a.stamp (c' + 1) with q | q | q
   ·exfalso;obtain ⟨x,x1,x2,x3⟩:=p2 d.a.stamp o1 (by omega);obtain ⟨y1,y2,_⟩:=(hl.mem x.1 x.2).1 (List.mem_append.2 (.inl x1));have hnm:=h.uniq y2 n2 x2 ht x3;have hs:=((List.pairwise_append.1 hl.srt).2.2 x x1 (d,n) (by simp)).2;simp only at hs;unfold rk at hs;rw [x2,ht,x3] at hs;omega
   ·exact q
   ·exfalso;rcases h.behind hl ⟨p0,p1,p2⟩ (by omega) with z | z
    ·omega
    ·unfold rk at z;rw [ht] at z;simp at z;omega
  have e1 : d.a.stamp - 1 = c':=by omega
  rw [e1] at o3 o4 o5;refine ⟨hst,⟨by omega,?_,?_⟩,by rw [<- hst]; exact o4,o5,o3⟩
  ·intro x hx hxt;rcases List.mem_append.1 hx with q | q
   ·have:=p1 x q hxt; omega
   ·rw [List.mem_singleton.1 q];show d.a.stamp<=_;omega
  ·intro s s1 s2;rcases (show s<=c'\/s = c' + 1 by omega) with q | q
   ·obtain ⟨x,x1,x2⟩:=p2 s s1 q;exact ⟨x,List.mem_append.2 (.inl x1),x2⟩
   ·exact ⟨(d,n),List.mem_append.2 (.inr (List.mem_singleton_self _)),ht,by show d.a.stamp = s; omega⟩
theorem FairEnd.last (h : FairEnd Rt ds c N E L puts takes) (hl : OrdL ds ds.length A) (hp : Pre A c') : c' = c:=by
 obtain ⟨p0,p1,p2⟩:=hp;rcases Int.lt_trichotomy c' c with q | q | q
 ·exfalso;obtain ⟨m,e,q1,q2,q3⟩:=h.have (s:=c' + 1) (by omega) (by omega);have hm:=(hl.mem e m).2 ⟨(List.getElem?_eq_some_iff.1 q1).1,q1,(h.took q1 q2).took.2⟩
  have:=p1 _ hm q2
  simp only at this;omega
 ·exact q
 ·exfalso;have hc:=h.c0;obtain ⟨x,x1,x2,x3⟩:=p2 c' (by omega) (Int.le_refl _);obtain ⟨_,y2,_⟩:=(hl.mem x.1 x.2).1 x1
  have:=(h.took y2 x2).2.2.1
  omega
theorem Pre.none : Pre [] 0:=⟨Int.le_refl _,fun x hx=>(List.not_mem_nil hx).elim,fun s h1 h2=>by omega⟩
theorem OrdJ.fair (h : OrdJ T N E L D) (hst : Still 0 D) : ∃ Rt,FairEnd Rt D.deeds D.P.clock N E L D.puts D.takes:=by
 obtain ⟨C,Rt,Vt,u,hC,hV,hR,hO⟩:=h.ex;refine ⟨Rt,hO.c0,hO.r0,hO.fd,hO.td,fun s=>?_,hO.sm,hO.pd⟩
 have:=hO.sc s
 have hz : count (tkT s) D.P.ts = 0:=by
  unfold count;rw [List.filter_eq_nil_iff.2]
  ·rfl
  ·intro t ht;obtain ⟨j,hj⟩:=List.mem_iff_getElem?.1 ht;rw [tkT_idle (hst j t (Nat.zero_le _) hj)]; decide
 rw [hz] at this;omega
end
end
end Go.Proofs.YtfccelbmacjifaaGreat
