import Derived.Test.YtfccelbmacjifabGreatP0
import Derived.Test.YtfccelbmacjifabGreatP23
import Derived.Test.YtfccelbmacjifabGreatP29
set_option linter.unusedSimpArgs false
set_option maxRecDepth 100000
set_option maxHeartbeats 4000000
namespace Go.Proofs.YtfccelbmacjifabGreat
section
def isUD (d : DeedV) : Bool:=decide (d.op.kind = 1\/d.op.kind = 2)
structure QJ (T L : Int) (p q : PlD) : Prop where
 jp : OrdJ T 64 256 L p
 jq : OrdJ T 64 256 L q
 ab : ∃ a bp bq,Abs bp a p.P/\Abs bq a q.P
 qu : ∀ (i : Nat) t,q.P.ts[i]? = some t->t.busy = true->t.work.kind = 1\/t.work.kind = 2
 ln : q.P.ts.length = p.P.ts.length
 cn : q.puts = p.puts/\q.takes = p.takes/\p.puts + p.takes<=30/\0<=p.puts/\0<=p.takes
 dd : q.deeds.map (·.a) = (p.deeds.filter isUD).map (·.a)
 lim : 30<=L
section
variable {T L : Int} {p p' q q' D : PlD} {i : Nat} {t u : PThread} {o o' : OpV}
theorem OrdJ.roomy (h : OrdJ T 64 256 L D) (hl : 30<=L) (hc : D.puts + D.takes<=30/\0<=D.puts/\0<=D.takes) (ht : D.P.ts[i]? = some t) (hu : Upd t) : (t.work.next = 7->¬ (D.P.mem.room.1 < (D.P.needs t.work.kind).1\/D.P.mem.room.2 < (D.P.needs t.work.kind).2))/\(t.work.next = 8->¬ D.P.limit<=D.P.clock):=by
 obtain ⟨C,Rt,Vt,u,hC,hV,hR,hO⟩:=h.ex;have hlen:=h.len;have heln:=h.eln;refine ⟨fun h7 hr=>?_,fun h8 hle=>?_⟩
 ·have:=hO.us.full (N:=64) (E:=256) hC.kind ht hu.1 h7 hu.2 hr (by rw [hlen]; rfl) (by rw [heln]; rfl)
  omega
 ·have:=hO.nm.late ht hu.1 h8 hu.2 hle
  rw [h.lim] at this;omega
theorem QJ.idle (h : QJ T L p q) (hp : p.P.ts[i]? = some t) (hq : q.P.ts[i]? = some u) (hu : ¬ Upd t) : u.busy = false:=by
 obtain ⟨a,bp,bq,h1,h2⟩:=h.ab;cases hb : u.busy
 ·rfl
 ·obtain ⟨ak,e,_⟩:=h2.up i u hq ⟨hb,h.qu i u hq hb⟩;rw [h1.no i t hp hu] at e;cases e
theorem QJ.upd (h : QJ T L p q) (hp : p.P.ts[i]? = some t) (hq : q.P.ts[i]? = some u) (hu : Upd t) : Upd u:=by
 obtain ⟨a,bp,bq,h1,h2⟩:=h.ab;obtain ⟨ak,e,_⟩:=h1.up i t hp hu;by_cases hn : Upd u
 ·exact hn
 ·rw [h2.no i u hq hn] at e;cases e
theorem OrdJ.opk (h : OrdJ T 64 256 L D) (ht : D.P.ts[i]? = some t) (hb : t.busy = true) {f : Int} (ho : D.ops[i]? = some o) (hf : D.frm[i]? = some f) : t.work.kind = o.kind:=by
 obtain ⟨_,_,_,_,_,_,_,hO⟩:=h.ex;exact (hO.wt i t o f ht hb ho hf).op.1
theorem step_lenT (hk : D.P.kind = 0) (ht : D.P.ts[i]? = some t) (hb : t.busy = true) : (D.P.step i t).1.ts.length = D.P.ts.length:=by
 obtain ⟨t',h1,_⟩:=step_work hk ht hb;rw [h1]; simp
theorem QJ.both (h : QJ T L p q) (hp : p.P.ts[i]? = some t) (hq : q.P.ts[i]? = some u) (hu : Upd t) : (p.P.step i t).2 = (q.P.step i u).2/\∀ p' q',Stepped p i t p'->Stepped q i u q'->QJ T L p' q':=by
 have hu2:=h.upd hp hq hu;obtain ⟨a,bp,bq,h1,h2⟩:=h.ab;obtain ⟨ak,e1,w1⟩:=h1.up i t hp hu;obtain ⟨ak',e2,w2⟩:=h2.up i u hq hu2;rw [e1] at e2;injection e2 with e2
 subst e2;obtain ⟨c1,c2,c3,c4,c5⟩:=h.cn;obtain ⟨C,_,_,_,hC,_⟩:=h.jp.ex;obtain ⟨C2,_,_,_,hC2,_⟩:=h.jq.ex;obtain ⟨r1,r2⟩:=h.jp.roomy h.lim ⟨c3,c4,c5⟩ hp hu;obtain ⟨r3,r4⟩:=h.jq.roomy h.lim ⟨by omega,by omega,by omega⟩ hq hu2;obtain ⟨b1,s1,s2⟩:=h1.step hC hp hu w1 r1 r2;obtain ⟨b2,s3,s4⟩:=h2.step hC2 hq hu2 w2 r3 r4;have hans : t.work.ans = u.work.ans:=by rw [<- w1.ans,<- w2.ans]
 have hhow : (p.P.step i t).2 = (q.P.step i u).2:=by rw [s1,s3]
 refine ⟨hhow,?_⟩;intro p' q' hsp hsq;refine ⟨h.jp.step hp hu.1 hsp,h.jq.step hq hu2.1 hsq,⟨_,b1,b2,by rw [hsp.P]; exact s2,by rw [hsq.P]; exact s4⟩,?_,?_,?_,?_,h.lim⟩
 ·intro j w hj hb;obtain ⟨u',z1,z2,z3⟩:=step_work hC2.kind hq hu2.1;rw [hsq.P,z1,List.getElem?_set] at hj;have hi:=(List.getElem?_eq_some_iff.1 hq).1;by_cases e : i = j
  ·subst e;simp [hi] at hj; subst hj;by_cases e3 : (q.P.step i u).2 = 3
   ·rw [z2 e3] at hb; cases hb
   ·rw [(z3 e3).2.1.1]; exact hu2.2
  ·rw [if_neg e] at hj;exact h.qu j w hj hb
 ·rw [hsp.P,hsq.P,step_lenT hC.kind hp hu.1,step_lenT hC2.kind hq hu2.1]; exact h.ln
 ·rw [hsp.cnt.1,hsp.cnt.2,hsq.cnt.1,hsq.cnt.2]; exact h.cn
 ·by_cases e3 : (p.P.step i t).2 = 3
  ·obtain ⟨av,oo,f,o1,o2,o3⟩:=hsp.deeds.2 e3;obtain ⟨av',oo',f',o1',o2',o3'⟩:=hsq.deeds.2 (by rw [<- hhow]; exact e3);have hk:=h.jp.opk hp hu.1 o1 o2;have hud : isUD ⟨oo,t.work.ans,av,f⟩ = true:=by
    unfold isUD;simp only [decide_eq_true_eq];rw [<- hk]; exact hu.2
   have hfl : List.filter isUD [⟨oo,t.work.ans,av,f⟩] = [⟨oo,t.work.ans,av,f⟩]:=by simp [hud]
   rw [o3,o3',List.filter_append,hfl,List.map_append,List.map_append,h.dd];simp [hans]
  ·rw [hsp.deeds.1 e3,hsq.deeds.1 (by rw [<- hhow]; exact e3)]; exact h.dd
theorem QJ.read (h : QJ T L p q) (hp : p.P.ts[i]? = some t) (hb : t.busy = true) (hu : ¬ Upd t) (hs : Stepped p i t p') : QJ T L p' q:=by
 obtain ⟨a,bp,bq,h1,h2⟩:=h.ab;obtain ⟨C,_,_,_,hC,_⟩:=h.jp.ex;have hk : t.work.kind = 3\/t.work.kind = 4:=by
  have:=(hC.th i t hp).kd hb
  have h12 : ¬ (t.work.kind = 1\/t.work.kind = 2):=fun e=>hu ⟨hb,e⟩
  omega
 refine ⟨h.jp.step hp hb hs,h.jq,⟨a,bp,bq,by rw [hs.P]; exact h1.read hC hp hb hk,h2⟩,h.qu,by rw [hs.P,step_lenT hC.kind hp hb]; exact h.ln,by rw [hs.cnt.1,hs.cnt.2]; exact h.cn,?_,h.lim⟩;by_cases e3 : (p.P.step i t).2 = 3
 ·obtain ⟨av,oo,f,o1,o2,o3⟩:=hs.deeds.2 e3;have hkk:=h.jp.opk hp hb o1 o2;have hud : isUD ⟨oo,t.work.ans,av,f⟩ = false:=by
   unfold isUD;simp only [decide_eq_false_iff_not];rw [<- hkk]; omega
  rw [o3,List.filter_append,List.map_append,h.dd];simp [hud]
 ·rw [hs.deeds.1 e3]; exact h.dd
theorem QJ.begin2 (h : QJ T L p q) (hp : p.P.ts[i]? = some t) (hq : q.P.ts[i]? = some u) (htb : t.busy = false) (hk : o.kind = 1\/o.kind = 2) (ho : o'.kind = o.kind/\o'.key = o.key/\o'.value = o.value/\o'.spans = o.spans) (hB : Begun p i t o p') (hB' : Begun q i u o' q') (hc : p.puts + p.takes < 30) : QJ T L p' q':=by
 obtain ⟨a,bp,bq,h1,h2⟩:=h.ab;obtain ⟨o1,o2,o3,o4⟩:=ho;have hub : u.busy = false:=h.idle hp hq (fun e=>by have:=e.1; rw [htb] at this; cases this);have hpr : properB o'.kind o'.key o'.spans = properB o.kind o.key o.spans:=by rw [o1,o2,o4]
 obtain ⟨c1,c2,c3,c4,c5⟩:=h.cn;cases hh : properB o.kind o.key o.spans
 ·obtain ⟨y1,_,_,_,y5,y6⟩:=hB.no (.inr hh);obtain ⟨x1,_,_,_,x5,x6⟩:=hB'.no (.inr (hpr.trans hh));exact ⟨h.jp.begin hp hB,h.jq.begin hq hB',⟨a,bp,bq,by rw [y1]; exact h1,by rw [x1]; exact h2⟩,by rw [x1]; exact h.qu,by rw [x1,y1]; exact h.ln,by rw [y5,y6,x5,x6]; exact h.cn,by rw [hB.deeds,hB'.deeds]; exact h.dd,h.lim⟩
 ·obtain ⟨y1,_,_,_,y5,y6⟩:=hB.yes htb hh;obtain ⟨x1,_,_,_,x5,x6⟩:=hB'.yes hub (hpr.trans hh);obtain ⟨w1,w2,_⟩:=newWork_ok (va:=o.value) hh;have hw : newWork o'.kind o'.key o'.value o'.spans = newWork o.kind o.key o.value o.spans:=by rw [o1,o2,o3,o4]
  rw [hw] at x1;have hi:=(List.getElem?_eq_some_iff.1 hq).1;refine ⟨h.jp.begin hp hB,h.jq.begin hq hB',⟨a.put i (newWork o.kind o.key o.value o.spans),bp,bq,by rw [y1]; exact h1.beginU hp (by rw [w2]; exact hk) w1,by rw [x1]; exact h2.beginU hq (by rw [w2]; exact hk) w1⟩,?_,?_,?_,by rw [hB.deeds,hB'.deeds]; exact h.dd,h.lim⟩
  ·intro j w hj hb;rw [x1] at hj;have hj' : (q.P.ts.set i { u with busy:=true,work:=newWork o.kind o.key o.value o.spans })[j]? = some w:=hj;rw [List.getElem?_set] at hj';by_cases e : i = j
   ·subst e;simp [hi] at hj'; subst hj';show (newWork o.kind o.key o.value o.spans).kind = 1\/(newWork o.kind o.key o.value o.spans).kind = 2;rw [w2]; exact hk
   ·rw [if_neg e] at hj';exact h.qu j w hj' hb
  ·rw [x1,y1]; simp [PSt.setT,h.ln]
  ·rw [y5,y6,x5,x6,o1,c1,c2];refine ⟨rfl,rfl,?_,?_,?_⟩
   ·rcases hk with e | e
    ·rw [if_pos e,if_neg (by omega)]; omega
    ·rw [if_neg (by omega),if_pos e]; omega
   ·split <;> omega
   ·split <;> omega
theorem QJ.begin1 (h : QJ T L p q) (hp : p.P.ts[i]? = some t) (htb : t.busy = false) (hk : ¬ (o.kind = 1\/o.kind = 2)) (hB : Begun p i t o p') : QJ T L p' q:=by
 obtain ⟨a,bp,bq,h1,h2⟩:=h.ab;cases hh : properB o.kind o.key o.spans
 ·obtain ⟨y1,_,_,_,y5,y6⟩:=hB.no (.inr hh);exact ⟨h.jp.begin hp hB,h.jq,⟨a,bp,bq,by rw [y1]; exact h1,h2⟩,h.qu,by rw [y1]; exact h.ln,by rw [y5,y6]; exact h.cn,by rw [hB.deeds]; exact h.dd,h.lim⟩
 ·obtain ⟨y1,_,_,_,y5,y6⟩:=hB.yes htb hh;obtain ⟨w1,w2,w3,_⟩:=newWork_ok (va:=o.value) hh;refine ⟨h.jp.begin hp hB,h.jq,⟨a,bp,bq,by rw [y1]; exact h1.beginR hp htb (by rw [w2]; omega),h2⟩,h.qu,by rw [y1]; simp [PSt.setT,h.ln],?_,by rw [hB.deeds]; exact h.dd,h.lim⟩;rw [y5,y6,if_neg (by omega),if_neg (by omega)];obtain ⟨c1,c2,c3,c4,c5⟩:=h.cn;exact ⟨by omega,by omega,by omega,by omega,by omega⟩
theorem QJ.sweepP (h : QJ T L p q) (L' : ZLay) : QJ T L { p with L:=L',P:=p.P.doSweep.1 } q:=by
 obtain ⟨a,bp,bq,h1,h2⟩:=h.ab;obtain ⟨C,_,_,_,hC,_⟩:=h.jp.ex;exact ⟨h.jp.sweep L',h.jq,⟨a,bp,bq,h1.sweep hC,h2⟩,h.qu,by show _ = p.P.doSweep.1.ts.length; rw [sweep_ts]; exact h.ln,h.cn,h.dd,h.lim⟩
theorem QJ.sweepQ (h : QJ T L p q) (L' : ZLay) : QJ T L p { q with L:=L',P:=q.P.doSweep.1 }:=by
 obtain ⟨a,bp,bq,h1,h2⟩:=h.ab;obtain ⟨C,_,_,_,hC,_⟩:=h.jq.ex;exact ⟨h.jp,h.jq.sweep L',⟨a,bp,bq,h1,h2.sweep hC⟩,by show ∀ (i : Nat) t,q.P.doSweep.1.ts[i]? = some t->_; rw [sweep_ts]; exact h.qu,by show q.P.doSweep.1.ts.length = _; rw [sweep_ts]; exact h.ln,h.cn,h.dd,h.lim⟩
theorem QJ.fresh (hL : 30<=L) (h : FreshPl T 64 256 L p) (h2 : FreshPl T 64 256 L q) : QJ T L p q:=by
 obtain ⟨a,h1,_,_,_⟩:=abs_fresh (T:=T) (N:=64) (E:=256) (L:=L) (by decide);refine ⟨OrdJ.fresh (by decide) (by decide) h,OrdJ.fresh (by decide) (by decide) h2,⟨a,id,id,by rw [h.P]; exact h1,by rw [h2.P]; exact h1⟩,?_,by rw [h.P,h2.P],?_,by rw [h.deeds,h2.deeds]; rfl,hL⟩
 ·rw [h2.P];intro j t hj hb;have hz : t = PThread.zero:=(List.mem_replicate.1 (List.mem_of_getElem? hj)).2;rw [hz] at hb; cases hb
 ·rw [h.cnt.1,h.cnt.2,h2.cnt.1,h2.cnt.2];exact ⟨rfl,rfl,by decide,by decide,by decide⟩
theorem QJ.clean (h : QJ T L p q) {d : DeedV} (hd : d ∈ p.deeds) (hu : isUD d = true) : d.a.err = 0:=by
 obtain ⟨_,_,_,_,_,_,_,hO⟩:=h.jp.ex;obtain ⟨n,hn⟩:=List.mem_iff_getElem?.1 hd;obtain ⟨c1,c2,c3,c4,c5⟩:=h.cn;have hl:=h.lim;unfold isUD at hu;simp only [decide_eq_true_eq] at hu;rcases hO.fd n d hn with e | e | e
 ·exact e.took.2
 ·exact e.2.2.2.1
 ·exfalso;obtain ⟨_,z⟩:=e;omega
end
end
section
open Go.RowKit
def InZ (o : Own) (k : Nat) : Prop:=(o k).z = 1\/((o k).z = 1 + 1/\o k≠⟨1 + 1,.oth 5⟩)
def ext5 (o : Own) (w : World) (v : Value) : Own:=fun k=>if k < w.heap.size then o k else if v.ownBlock = some k then ⟨1 + 1,.oth 5⟩ else ⟨9,.store⟩
structure TwoAt (W w : World) (pb qb : Nat) (K : List (Nat × List Value × TypeId)) (op oq : Own) (p q : PlD) : Prop where
 p : PlAt op 1 w pb p
 q : PlAt oq 1 w qb q
 ep : Ext own00 op W
 eq : Ext own00 oq W
 fr : Fr (fun _=>False) W w
 d1 : ∀ k,k < w.heap.size->((oq k).z = 1\/(oq k).z = 1 + 1)->¬ InZ op k
 d2 : ∀ k,k < w.heap.size->((op k).z = 1\/(op k).z = 1 + 1)->¬ InZ oq k
 kp : ∀ x ∈ K,At w x.1 x.2.1 x.2.2/\op x.1 = ⟨9,.store⟩/\oq x.1 = ⟨9,.store⟩
section
variable {W w w' : World} {K : List (Nat × List Value × TypeId)} {pb qb b i : Nat} {op oq : Own} {p q p' q' : PlD} {v : Value} {Q : PlD->Prop} {T L : Int} {t u : PThread}
theorem ext5_ext (o : Own) (w : World) (v : Value) : Ext o (ext5 o w v) w:=fun _ hk=>if_pos hk
theorem ext5_new {o : Own} {k : Nat} (hk : ¬ k < w.heap.size) : ¬ InZ (ext5 o w v) k:=by
 unfold InZ ext5;rw [if_neg hk];split
 ·simp
 ·simp
theorem TwoAt.more (h : TwoAt W w pb qb K op oq p q) (hf : Fr (fun _=>False) w w') (v : Value) : TwoAt W w' pb qb K (ext5 op w v) (ext5 oq w v) p q:=by
 refine ⟨h.p.fr hf (ext5_ext _ _ _) (fun _ _ h=>h),h.q.fr hf (ext5_ext _ _ _) (fun _ _ h=>h),Ext.trans h.ep (ext5_ext _ _ _) h.fr.size,Ext.trans h.eq (ext5_ext _ _ _) h.fr.size,h.fr.trans hf,?_,?_,?_⟩
 ·intro k _ hz;by_cases hk : k < w.heap.size
  ·have e1 : ext5 oq w v k = oq k:=if_pos hk;have e2 : ext5 op w v k = op k:=if_pos hk;unfold InZ;rw [e1] at hz;rw [e2];exact h.d1 k hk hz
  ·exact ext5_new hk
 ·intro k _ hz;by_cases hk : k < w.heap.size
  ·have e1 : ext5 oq w v k = oq k:=if_pos hk;have e2 : ext5 op w v k = op k:=if_pos hk;unfold InZ;rw [e2] at hz;rw [e1];exact h.d2 k hk hz
  ·exact ext5_new hk
 ·intro x hx;obtain ⟨k1,k2,k3⟩:=h.kp x hx;exact ⟨hf.at k1 (fun h=>h),by rw [ext5_ext op w v _ k1.lt]; exact k2,by rw [ext5_ext oq w v _ k1.lt]; exact k3⟩
theorem TwoAt.box (h : TwoAt W w pb qb K op oq p q) (hf : Fr (fun _=>False) w w') {c : List Value} {e : TypeId} {x : Nat} (hA : At w' x c e) (hx : w.heap.size<=x) : TwoAt W w' pb qb ((x,c,e) :: K) (ext5 op w (.slice none 0 0)) (ext5 oq w (.slice none 0 0)) p q:=by
 have hm:=h.more hf (.slice none 0 0);refine ⟨hm.p,hm.q,hm.ep,hm.eq,hm.fr,hm.d1,hm.d2,?_⟩;intro y hy;rcases List.mem_cons.1 hy with rfl | hy
 ·have h9 : ∀ o : Own,ext5 o w (.slice none 0 0) x = ⟨9,.store⟩:=by
   intro o;unfold ext5;rw [if_neg (by omega),if_neg (by simp [Value.ownBlock])]
  exact ⟨hA,h9 _,h9 _⟩
 ·exact hm.kp y hy
theorem OwnSpans.opok {w0 : World} {sp : List (Int × Int)} (hO : OwnSpans w0 w' v sp) (hw : w.heap.size<=w0.heap.size) (o : OpV) (h1 : o.sv = v) (h2 : o.spans = sp) : OpOk (ext5 op w v) (1 + 1) w' o:=by
 refine ⟨by rw [h1,h2]; exact hO.row,?_⟩;rw [h1];intro k hk
 have:=hO.new k hk
 unfold ext5;rw [if_neg (by omega),if_pos hk]
theorem TwoAt.left (h : TwoAt W w pb qb K op oq p q) (hg : PlGoes op 1 w pb w' Q) : ∃ op' p',TwoAt W w' pb qb K op' (ext5 oq w (.slice none 0 0)) p' q/\Q p'/\Ext op op' w/\Fr (fun k=>InZ op k) w w':=by
 obtain ⟨op',p',h1,h2,h3,h4⟩:=hg;have hF : Fr (fun k=>InZ op k) w w':=h3;have hF2 : Fr (fun k=>InZ op k/\k < w.heap.size) w w':=Fr.mono hF (fun k hk hz=>⟨hz,hk⟩);refine ⟨op',p',⟨h1,h.q.fr hF2 (ext5_ext _ _ _) (fun k hz hs=>h.d1 k hs.2 hz hs.1),Ext.trans h.ep h2 h.fr.size,Ext.trans h.eq (ext5_ext _ _ _) h.fr.size,?_,?_,?_,?_⟩,h4,h2,hF⟩
 ·refine Fr.transNew h.fr hF (fun k hk=>.inr ?_);rcases Nat.lt_or_ge k W.heap.size with hlt | hge
  ·unfold InZ at hk;rw [h.ep k hlt] at hk;simp [own00] at hk
  ·exact hge
 ·intro k _ hz;by_cases hk : k < w.heap.size
  ·have e1 : ext5 oq w (.slice none 0 0) k = oq k:=if_pos hk;rw [e1] at hz;unfold InZ;rw [h2 k hk];exact h.d1 k hk hz
  ·unfold ext5 at hz;rw [if_neg hk,if_neg (by simp [Value.ownBlock])] at hz;simp at hz
 ·intro k _ hz;by_cases hk : k < w.heap.size
  ·have e1 : ext5 oq w (.slice none 0 0) k = oq k:=if_pos hk;unfold InZ;rw [e1];rw [h2 k hk] at hz;exact h.d2 k hk hz
  ·exact ext5_new hk
 ·intro x hx;obtain ⟨k1,k2,k3⟩:=h.kp x hx;refine ⟨hF.at k1 ?_,by rw [h2 _ k1.lt]; exact k2,by rw [ext5_ext oq w _ _ k1.lt]; exact k3⟩;unfold InZ;rw [k2]
  simp
theorem TwoAt.swap (h : TwoAt W w pb qb K op oq p q) : TwoAt W w qb pb K oq op q p:=⟨h.q,h.p,h.eq,h.ep,h.fr,h.d2,h.d1,fun x hx=>⟨(h.kp x hx).1,(h.kp x hx).2.2,(h.kp x hx).2.1⟩⟩
theorem TwoAt.right (h : TwoAt W w pb qb K op oq p q) (hg : PlGoes oq 1 w qb w' Q) : ∃ oq' q',TwoAt W w' pb qb K (ext5 op w (.slice none 0 0)) oq' p q'/\Q q'/\Ext oq oq' w/\Fr (fun k=>InZ oq k) w w':=by
 obtain ⟨oq',q',h1,h2,h3,h4⟩:=h.swap.left hg;exact ⟨oq',q',h1.swap,h2,h3,h4⟩
def TwoOn (W w : World) (pb qb : Nat) (K : List (Nat × List Value × TypeId)) (Q : PlD->PlD->Prop) : Prop:=∃ op oq p q,TwoAt W w pb qb K op oq p q/\Q p q
theorem OrdJ.bsy {D : PlD} (h : OrdJ T 64 256 L D) (ht : D.P.ts[i]? = some t) : D.bs[i]? = some t.busy:=by
 have hok : D.bs = D.P.ts.map (·.busy):=h.ok;rw [hok,List.getElem?_map,ht]; rfl
theorem both_calls (h : TwoAt W w pb qb K op oq p q) (hj : QJ T L p q) (hs : Sz b p) (hs2 : Sz b q) (hb : b<=2 ^ 36) (hp : p.P.ts[i]? = some t) (hu : Upd t) :
  Calls Tryz.prog 43 #[pv pb,pv qb,.int .i64 i] w fun r w'=>r = .returned (.tuple #[.int .i64 (p.P.step i t).2,.bool true])/\TwoOn W w' pb qb K (fun p' q'=>QJ T L p' q'/\Stepped p i t p'/\Sz (b + 1) p'/\Sz (b + 1) q'):=by
 have hil:=(List.getElem?_eq_some_iff.1 hp).1;obtain ⟨u,hq⟩ : ∃ u,q.P.ts[i]? = some u:=⟨_,List.getElem?_eq_getElem (by rw [hj.ln]; exact hil)⟩;have hu2:=hj.upd hp hq hu;obtain ⟨hhow,hnext⟩:=hj.both hp hq hu;have HC1:=(mkH (Calls _ _ _ _ _) <|Psteps_busy h.p (by rw [hj.jp.bsy hp,hu.1]) hp hu.1 (by unfold Sz at hs; omega) (by unfold Sz at hs; omega));have HC2:=(mkH (∀ op' w2 oq' p',TwoAt W w2 pb qb K op' oq' p' q->Calls Tryz.prog 35 #[pv qb,.int .i64 i] w2 _) <|fun op' w2 oq' p' h2=>Psteps_busy h2.q (by rw [hj.jq.bsy hq,hu2.1]) hq hu2.1 (by unfold Sz at hs2; omega) (by unfold Sz at hs2; omega));have HN:=(mkH (∀ p' q',Stepped p i t p'->Stepped q i u q'->QJ T L p' q'/\Stepped p i t p'/\Sz (b + 1) p'/\Sz (b + 1) q') <|fun p' q' e1 e2=>⟨hnext p' q' e1 e2,e1,hs.step e1,hs2.step e2⟩);have HW:=(mkH ((p.P.step i t).2 = (q.P.step i u).2) <|hhow);have HT:=(mkH (TwoAt W w pb qb K op oq p q) <|h);clear h hj hs hs2 hp hq hu hu2 hhow hnext;unfold pv at HC1 HC2 ⊢
 go_enter Tryz.func43,Tryz.ntmps43
 go_wp2_with fail;refine Calls.mono HC1.out ?_;rintro r w1 ⟨rfl,hg⟩;obtain ⟨op1,p1,hT1,hs1,_,_⟩:=HT.out.left hg;have HC3:=(mkH (Calls _ _ _ _ _) <|HC2.out _ _ _ _ hT1);have HT1:=(mkH (TwoAt _ _ _ _ _ _ _ _ _) <|hT1);have HS1:=(mkH (Stepped p i t p1) <|hs1);clear hg hT1 hs1 HC1 HC2;rw [HW.out];go_wp2_with fail;refine Calls.mono HC3.out ?_;rintro r w2 ⟨rfl,hg⟩;obtain ⟨oq2,q2,hT2,hs2,_,_⟩:=HT1.out.right hg;have HFin:=(mkH (TwoOn W w2 pb qb K (fun p' q'=>QJ T L p' q'/\Stepped p i t p'/\Sz (b + 1) p'/\Sz (b + 1) q')) <|⟨_,_,_,_,hT2,HN.out _ _ HS1.out hs2⟩);clear hg hT2 hs2 HC3;go_wp2;go_ret2;exact ⟨by simp; exact HW.out.symm,HFin.out⟩
end
end
section
open Go.RowKit
section
variable {W w w' : World} {K : List (Nat × List Value × TypeId)} {pb qb b i : Nat} {own op oq : Own} {z : Nat} {p q p' q' D : PlD} {v : Value} {Q : PlD->Prop} {T L : Int} {t u : PThread} {o : OpV}
theorem PlAt.opCells (h : PlAt own z w pb D) (ho : D.ops[i]? = some o) : ∃ g c xa xc,D.ov = .slice (some ⟨g,0,none⟩) D.P.ts.length c/\o.sv = .slice xa o.spans.length xc/\w.cell? ⟨g,i * 4,none⟩ = some (.int .i64 o.kind)/\w.cell? ⟨g,i * 4 + 1,none⟩ = some (.int .i64 o.key)/\w.cell? ⟨g,i * 4 + 2,none⟩ = some (.int .i64 o.value)/\w.cell? ⟨g,i * 4 + 3,none⟩ = some (.slice xa o.spans.length xc):=by
 have hi:=(List.getElem?_eq_some_iff.1 ho).1;rw [h.ol] at hi;obtain ⟨g,c,hv,_⟩:=ownsRow_shape h.ops.row (by omega);obtain ⟨xa,xc,hs⟩:=ownsShape (h.opk o (List.mem_of_getElem? ho)).row;have hr:=h.ops.row;rw [hv] at hr;have key : ∀ q u,q < 4->o.cells[q]? = some u->w.cell? ⟨g,i * 4 + q,none⟩ = some u:=fun q u hq hu=>ownsRow_cell hr ((tab_get OpV.cells 4 opv_len D.ops i q o ho hq).trans hu)
 have k3:=key 3 o.sv (by decide) rfl;rw [hs] at k3;exact ⟨g,c,xa,xc,hv,hs,key 0 _ (by decide) rfl,key 1 _ (by decide) rfl,key 2 _ (by decide) rfl,k3⟩
def BesideTo (p : PlD) (i : Nat) (t : PThread) (p' : PlD) : Prop:=(t.busy = true->Stepped p i t p')/\(t.busy = false->p' = p)
theorem OrdJ.opsome (h : PlAt own z w pb D) (ht : D.P.ts[i]? = some t) : ∃ o f,D.ops[i]? = some o/\D.frm[i]? = some f:=by
 have hi:=(List.getElem?_eq_some_iff.1 ht).1;exact ⟨_,_,List.getElem?_eq_getElem (by rw [h.ol]; exact hi),List.getElem?_eq_getElem (by rw [h.fl]; exact hi)⟩
theorem beside_calls (h : TwoAt W w pb qb K op oq p q) (hj : QJ T L p q) (hs : Sz b p) (hs2 : Sz b q) (hb : b<=2 ^ 36) (hp : p.P.ts[i]? = some t) :
  Calls Tryz.prog 18 #[pv pb,pv qb,.int .i64 i] w fun r w'=>r = .returned (.tuple #[.int .i64 (if t.busy then (p.P.step i t).2 else 0),.bool true])/\TwoOn W w' pb qb K (fun p' q'=>QJ T L p' q'/\BesideTo p i t p'/\Sz (b + 1) p'/\Sz (b + 1) q'):=by
 have hil:=(List.getElem?_eq_some_iff.1 hp).1;obtain ⟨g,c,hv,hbc,_⟩:=h.p.busyRow (hj.jp.bsy hp);obtain ⟨o,f,ho,hf⟩:=OrdJ.opsome h.p hp;obtain ⟨g2,c2,xa,xc,hov,hsv,o0,o1,o2,o3⟩:=h.p.opCells ho;have ha:=h.p.at_.cell;simp only [PlD.cells,hv,hov,pv] at ha;have hT8:=h.p.fit.thr;obtain ⟨nT,hnT⟩ : ∃ nT,nT = p.P.ts.length:=⟨_,rfl⟩;rw [<- hnT] at ha hil hT8;have HJ:=(mkH (QJ T L p q) <|hj);have HT:=(mkH (TwoAt W w pb qb K op oq p q) <|h);have HS:=(mkH (Sz b p/\Sz b q/\b<=2 ^ 36) <|⟨hs,hs2,hb⟩);have HP:=(mkH (p.P.ts[i]? = some t) <|hp);have hIs : ∀ w1,Fr (fun _=>False) w w1->∃ op1 oq1,TwoAt W w1 pb qb K op1 oq1 p q:=fun w1 hf1=>⟨_,_,h.more hf1 (.slice none 0 0)⟩
 have HIs:=(mkH (∀ w1,Fr (fun _=>False) w w1->∃ op1 oq1,TwoAt W w1 pb qb K op1 oq1 p q) <|hIs);have HK : Hid (t.busy = true->t.work.kind = o.kind):=fun hbt=>hj.jp.opk hp hbt ho hf
 clear h hj hs hs2 hb hv hov ho hf hp hIs hnT hsv;unfold pv;cases htb : t.busy
 ·rw [htb] at hbc;have HC:=(mkH (Calls _ _ _ _ _) <|Psteps_idle HT.out.p (by rw [HJ.out.jp.bsy HP.out,htb]) HP.out htb);have HFin:=(mkH (TwoOn W w pb qb K (fun p' q'=>QJ T L p' q'/\BesideTo p i t p'/\Sz (b + 1) p'/\Sz (b + 1) q')) <|⟨_,_,_,_,HT.out,HJ.out,⟨fun e=>(by rw [htb] at e; cases e),fun _=>rfl⟩,HS.out.1.mono (by omega),HS.out.2.1.mono (by omega)⟩);unfold pv at HC;clear htb
  go_enter Tryz.func18,Tryz.ntmps18
  go_wp2_with fail;refine Calls.mono HC.out ?_;rintro r w1 ⟨rfl,rfl⟩;go_wp2;go_ret2;exact ⟨rfl,HFin.out⟩
 ·rw [htb] at hbc;have hku:=HK.out htb;have HU:=(mkH (∀ w,Calls Tryz.prog 33 #[opVal o.kind o.key o.value (.slice xa o.spans.length xc)] w _) <|fun w=>isUpdate_calls o.kind o.key o.value (.slice xa o.spans.length xc) w);unfold opVal at HU;have HBt:=(mkH (t.busy = true) <|htb);by_cases hu : Upd t
  ·have hk2 : (o.kind == 1 || o.kind == 2) = true:=by have:=hu.2; rw [hku] at this; simpa using this
   have HUp:=(mkH (Upd t) <|hu);have HC:=(mkH (∀ w1,Fr (fun _=>False) w w1->Calls Tryz.prog 43 #[pv pb,pv qb,.int .i64 i] w1 _) <|fun w1 hf1=>by
    obtain ⟨op1,oq1,h1⟩:=HIs.out w1 hf1;exact both_calls h1 HJ.out HS.out.1 HS.out.2.1 HS.out.2.2 HP.out HUp.out)
   unfold pv at HC;rw [hk2] at HU;clear hu hk2 hku htb HK
   go_enter Tryz.func18,Tryz.ntmps18
   go_wp2_with fail;refine Calls.mono (HU.out _) ?_;rintro r w1 ⟨rfl,hF1⟩;have HC1:=(mkH (Calls _ _ _ _ _) <|HC.out w1 hF1);clear hF1 HU;go_wp2_with fail;refine Calls.mono HC1.out ?_;rintro r w2 ⟨rfl,op2,oq2,p2,q2,t1,t2,t3,t4,t5⟩;have HFin:=(mkH (TwoOn W w2 pb qb K (fun p' q'=>QJ T L p' q'/\BesideTo p i t p'/\Sz (b + 1) p'/\Sz (b + 1) q')) <|⟨_,_,_,_,t1,t2,⟨fun _=>t3,fun e=>(by rw [HBt.out] at e; cases e)⟩,t4,t5⟩);clear t1 t2 t3 t4 t5 HC1;go_wp2;go_ret2;exact ⟨rfl,HFin.out⟩
  ·have hk2 : (o.kind == 1 || o.kind == 2) = false:=by
    have h12 : ¬ (t.work.kind = 1\/t.work.kind = 2):=fun e=>hu ⟨htb,e⟩
    rw [hku] at h12;simp only [not_or] at h12;simp [h12.1,h12.2]
   have HUp:=(mkH (¬ Upd t) <|hu);have HC:=(mkH (∀ w1,Fr (fun _=>False) w w1->Calls Tryz.prog 35 #[pv pb,.int .i64 i] w1 fun r w2=>r = .returned (.tuple #[.int .i64 (p.P.step i t).2,.bool true])/\TwoOn W w2 pb qb K (fun p' q'=>QJ T L p' q'/\BesideTo p i t p'/\Sz (b + 1) p'/\Sz (b + 1) q')) <|fun w1 hf1=>by
    obtain ⟨op1,oq1,h1⟩:=HIs.out w1 hf1;have hsz:=HS.out.1;refine (Psteps_busy h1.p (by rw [HJ.out.jp.bsy HP.out,HBt.out]) HP.out HBt.out (by have:=HS.out.2.2; unfold Sz at hsz; omega) (by have:=HS.out.2.2; unfold Sz at hsz; omega)).mono ?_;rintro r w2 ⟨rfl,hg⟩;obtain ⟨op2,p2,hT2,hs2,_,_⟩:=h1.left hg;exact ⟨rfl,_,_,_,_,hT2,HJ.out.read HP.out HBt.out HUp.out hs2,⟨fun _=>hs2,fun e=>(by rw [HBt.out] at e; cases e)⟩,HS.out.1.step hs2,HS.out.2.1.mono (by omega)⟩)
   unfold pv at HC;rw [hk2] at HU;clear hu hk2 hku htb HK
   go_enter Tryz.func18,Tryz.ntmps18
   go_wp2_with fail;refine Calls.mono (HU.out _) ?_;rintro r w1 ⟨rfl,hF1⟩;have HC1:=(mkH (Calls _ _ _ _ _) <|HC.out w1 hF1);clear hF1 HU;go_wp2_with fail;refine Calls.mono HC1.out ?_;rintro r w2 ⟨rfl,hfin⟩;have HFin:=(mkH (TwoOn W w2 pb qb K (fun p' q'=>QJ T L p' q'/\BesideTo p i t p'/\Sz (b + 1) p'/\Sz (b + 1) q')) <|hfin);clear hfin HC1;go_wp2;go_ret2;exact ⟨rfl,HFin.out⟩
end
end
end Go.Proofs.YtfccelbmacjifabGreat
