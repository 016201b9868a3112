import Derived.Test.YtfccelbmacjifabGreatP0
import Derived.Test.YtfccelbmacjifabGreatP25
import Derived.Test.YtfccelbmacjifabGreatP16
set_option linter.unusedSimpArgs false
set_option maxRecDepth 100000
set_option maxHeartbeats 4000000
namespace Go.Proofs.YtfccelbmacjifabGreat
section
namespace T
section
variable {g g' : Gh} {M M' : PMem} {c c' T : Int} {r r' : PSweep} {i j : Nat} {t t' u : PThread} {ts ts' : List PThread} {P P' : PSt} {x d st : Int} {s : Bool} {key : Int} {k : PWork} {n : Int}
theorem Ver.stay {tr : Tr} (hR : Ver M ts tr T) (hn : ∀ x,tr.Has x->M'.node x = M.node x) (h1 : ∀ x s d st,(x = 0\/tr.Inn x)->VE M ts x s st d->st<=T->(∀ st' d',VE M ts x s st' d'->st'<=T->st' < st\/(st' = st/\d' = d))->VE M' ts x s st d) (h2 : ∀ x s st d,(x = 0\/tr.Inn x)->VE M' ts x s st d->VE M ts x s st d) : Ver M' ts tr T:=by
 refine ⟨⟨?_,?_⟩,?_,hR.f,?_⟩
 ·intro x q hq; simp only [Us,Ln,Ky]; rw [hn x (Tr.nod_has hq)]; exact hR.a.n x q hq
 ·intro x q w hq; simp only [Us,Ln,Ky]; rw [hn x (Tr.lea_has hq)]; exact hR.a.l x q w hq
 ·intro x hx; simp only [Re,Ra]; rw [hn x hx]; exact hR.r x hx
 ·intro x s d hd;obtain ⟨st,e1,e2,e3⟩:=hR.e x s d hd;have hx:=(Tr.ed_has hd).2;exact ⟨st,h1 x s d st hx e1 e2 e3,e2,fun st' d' q1 q2=>e3 st' d' (h2 x s st' d' hx q1) q2⟩
theorem sweepG_V (g : Gh) (P : PSt) : (sweepG g P).V = g.V:=by unfold sweepG; split <;> rfl
theorem InvV.sweep (hV : InvV g P) (h : Inv g P) : InvV (sweepG g P) P.doSweep.1:=by
 obtain ⟨now,gts,rd⟩:=hV
 -- it is enough to keep versions
 suffices hh : P.doSweep.1.clock = P.clock/\P.doSweep.1.ts = P.ts/\(Ver P.doSweep.1.mem P.ts (g.V P.clock) P.clock)/\(∀ (i : Nat) t,P.ts[i]? = some t->Rdr t->Ver P.doSweep.1.mem P.ts (g.V t.work.time) t.work.time) by
  obtain ⟨h1,h2,h3,h4⟩:=hh;refine ⟨?_,?_,?_⟩
  ·rw [sweepG_V,h1,h2]; exact h3
  ·rw [sweepG_V,h1]; exact gts
  ·rw [sweepG_V,h1,h2];intro i t ht hr
   have:=rd i t ht hr
   exact ⟨h4 i t ht hr,this.2⟩
 have rd':=fun i t ht hr=>(rd i t ht hr).1
 have hsm:=h.o.sm;unfold PSt.doSweep;simp only;split
 ·exact ⟨rfl,rfl,now,rd'⟩
 ·next hm0 =>
  split
  ·split <;> exact ⟨rfl,rfl,now,rd'⟩
  ·next hl =>
   -- all have been looked at
   have pass : ∀ (i : Nat) u,P.ts[i]? = some u->Rdr u->(P.sweep.hasTime = true/\P.sweep.time<=u.work.time)\/P.sweep.clock<=u.work.time:=by
    intro i u hu hr;have hil:=(List.getElem?_eq_some_iff.1 hu).1;exact ((h.th i u hu).tm hr.1 hr.2.2.1).2 (by omega)
   split
   ·have he : ∀ e,e = (if (P.sweep.hasTime && decide (P.sweep.time < P.sweep.clock)) = true then P.sweep.time else P.sweep.clock)->e<=P.sweep.clock/\(P.sweep.hasTime = true->e<=P.sweep.time):=by
     rintro e rfl;split
     ·next hh=>simp at hh; exact ⟨by omega,fun _=>Int.le_refl _⟩
     ·next hh =>
      refine ⟨Int.le_refl _,fun e=>?_⟩;simp [e] at hh; exact hh
    have he:=he _ rfl;generalize (if (P.sweep.hasTime && decide (P.sweep.time < P.sweep.clock)) = true then P.sweep.time else P.sweep.clock) = e at *;obtain ⟨g1,g2,g3,g4⟩:=drop_ok h.wm e;have hnd:=node_ns g1;generalize P.mem.drop e = M1 at *;have ver : ∀ tr T,Ver P.mem P.ts tr T->e<=T->Ver M1 P.ts tr T:=by
     intro tr T hR hT;refine hR.stay (fun x _=>hnd x) ?_ ?_
     ·rintro x s d st _ (q | ⟨q1,q2⟩) hs hg
      ·refine .inl ((g4 x s st d).2 ⟨q,?_⟩);intro s' d' q' hlt hle
       have:=hg s' d' (.inl q') (by omega)
       omega
      ·exact .inr ⟨q1,by rw [g3]; exact q2⟩
     ·rintro x s st d _ (q | ⟨q1,q2⟩)
      ·exact .inl ((g4 x s st d).1 q).1
      ·exact .inr ⟨q1,by rw [g3] at q2; exact q2⟩
    refine ⟨rfl,rfl,ver _ _ now (by have:=h.o.sc; omega),?_⟩;intro j u hj hr;refine ver _ _ (rd' j u hj hr) ?_;rcases pass j u hj hr with q | q
    ·have:=he.2 q.1; omega
    ·omega
   ·next hne =>
    have hre : ∀ x,InSw P.sweep x->Re P.mem x/\g.O x:=by
     intro x hx;have h1:=(h.o.sw x hx).1;exact ⟨h1,h.n.od x (h.n.re x h1).1⟩
    obtain ⟨g1,g2,g3⟩:=freesIf_ok P.sweep.hasTime P.sweep.time P.sweep.retired P.mem h.wm (by
     intro n hn
     have:=h.n.ou _ (hre (n : Int) ⟨n,hn,rfl⟩).2
     exact ⟨hasN_used this.1,this.2.2.1,fun e=>this.2.1 (e ▸ Tr.lea_has h.n.gt.one)⟩)
    generalize P.mem.freesIf P.sweep.hasTime P.sweep.time P.sweep.retired = M1 at *;have ver : ∀ tr T,Ver P.mem P.ts tr T->(∀ x,InSw P.sweep x->(P.sweep.hasTime = true->Ra P.mem x < P.sweep.time)->Ra P.mem x<=T)->Ver M1 P.ts tr T:=by
     intro tr T hR hT;have stay : ∀ x,(x = 0\/tr.Has x)->¬ Gone P.mem P.sweep.hasTime P.sweep.time P.sweep.retired x:=by
      rintro x hx ⟨hin,hc⟩;obtain ⟨q1,q2⟩:=hre x hin;rcases hx with rfl | hx
      ·exact (h.n.ou 0 q2).2.2.1 rfl
      ·have h1:=hR.r x hx q1;have h2:=hT x hin hc;omega
     have inn : ∀ x,(x = 0\/tr.Inn x)->(x = 0\/tr.Has x):=fun x hx=>hx.imp id Tr.inn_has
     refine hR.stay (fun x hx=>((g3 x).2 (stay x (.inr hx))).1) ?_ ?_
     ·rintro x s d st hx hv _ _;have hst:=(g3 x).2 (stay x (inn x hx));rcases hv with q | ⟨q1,q2⟩
      ·exact .inl ((hst.2.2 s st d).2 q)
      ·exact .inr ⟨q1,by rw [hst.2.1]; exact q2⟩
     ·rintro x s st d hx hv;have hst:=(g3 x).2 (stay x (inn x hx));rcases hv with q | ⟨q1,q2⟩
      ·exact .inl ((hst.2.2 s st d).1 q)
      ·exact .inr ⟨q1,by rw [hst.2.1] at q2; exact q2⟩
    refine ⟨rfl,rfl,ver _ _ now ?_,?_⟩
    ·intro x hx _
     have:=(h.o.sw x hx).2
     have:=h.o.sc.1
     omega
    ·intro j u hj hr;refine ver _ _ (rd' j u hj hr) ?_;intro x hx hc;have h1:=(h.o.sw x hx).2;rcases pass j u hj hr with q | q
     ·have:=hc q.1; omega
     ·omega
theorem Inv.ledIs (h : Inv g P) {tr : Tr} (hR : Ver P.mem P.ts tr T) (hA : A tr x s d) (hp : Pd P.mem x s = []) : P.mem.ledTo x s T = d:=by
 obtain ⟨st,g1,g2,g3⟩:=hR.e x s d hA;have hsd : ∀ st d,VE P.mem P.ts x s st d->Sd P.mem x s st d:=by
  rintro st d (q | ⟨_,q⟩)
  ·exact q
  ·rw [hp] at q; cases q
 have g1':=hsd _ _ g1;rcases ledTo_ok (M:=P.mem) (n:=x) (b:=s) (time:=T) (fun st d hh=>(h.e.ms x s st d hh).2.1) with ⟨_,q⟩ | ⟨s2,q1,q2,q3⟩
 ·exact absurd g2 (q st d g1')
 ·have:=q3 st d g1' g2
  rcases g3 s2 _ (.inl q1) q2 with z | z
  ·omega
  ·exact z.2
end
end T
end
section
open Go.RowKit
def pickN (c n : Int) : Int:=(if c < 0 then -(c + 1) else c).tmod n
theorem pickN_in {c n : Int} (hn : 0 < n) : 0<=pickN c n/\pickN c n < n:=by
 unfold pickN;split
 ·exact ⟨Int.tmod_nonneg _ (by omega),Int.tmod_lt_of_pos _ hn⟩
 ·exact ⟨Int.tmod_nonneg _ (by omega),Int.tmod_lt_of_pos _ hn⟩
theorem lpick_calls (c n : Int) (hc : -9223372036854775808<=c/\c<=9223372036854775807) (hn : 0 < n/\n<=2 ^ 41) (w : World) :
  Calls Tryz.prog 23 #[.int .i64 c,.int .i64 n] w fun r w'=>r = .returned (.int .i64 (pickN c n))/\w' = w:=by
 obtain ⟨c1,c2⟩:=hc;obtain ⟨n1,n2⟩:=hn;have hne : (n == 0) = false:=by simp; omega
 have hne' : n≠0:=by omega
 have hp:=pickN_in (c:=c) n1;have HP : Hid (0<=pickN c n/\pickN c n < n):=hp;clear hp;by_cases h0 : c < 0
 ·have hv : pickN c n = (-(c + 1)).tmod n:=by unfold pickN; rw [if_pos h0]
  have hv' : pickN c n = (-1 + -c).tmod n:=by rw [hv]; congr 1; omega
  go_enter Tryz.func23,Tryz.ntmps23
  go_wp2;go_ret;exact ⟨by rw [hv,Int.neg_tmod]; rfl,rfl⟩
 ·have hv : pickN c n = c.tmod n:=by unfold pickN; rw [if_neg h0]
  go_enter Tryz.func23,Tryz.ntmps23
  go_wp2;go_ret;exact ⟨by rw [Int.tmod_eq_emod_of_nonneg h0]; rfl,rfl⟩
def raw (c : Int) : Prop:=-9223372036854775808<=c/\c<=9223372036854775807
def cT (threads t : Int) : Int:=threads + pickN t (9 - threads)
def cN (n : Int) : Int:=pickN n 65
def cE (e : Int) : Int:=1 + pickN e 256
def cL (l : Int) : Int:=pickN l 1099511627777
theorem cfg_ok (kind threads t n e l : Int) (hk : kind = 0\/kind = 1) (ht : threads = 1\/threads = 2) : okCfg kind (cT threads t) (cN n) (cE e) (cL l) = true/\threads<=cT threads t:=by
 have h1:=pickN_in (c:=t) (n:=9 - threads) (by omega);have h2:=pickN_in (c:=n) (n:=65) (by omega);have h3:=pickN_in (c:=e) (n:=256) (by omega);have h4:=pickN_in (c:=l) (n:=1099511627777) (by omega);refine ⟨?_,by unfold cT; omega⟩;unfold okCfg cT cN cE cL;rw [isIn_true (by omega),isIn_true (by omega),isIn_true (by omega),isIn_true (by omega),isIn_true (by omega)]
 rfl
theorem config_calls (k t n e l kind threads : Int) (w : World) (ht : raw t) (hn : raw n) (he : raw e) (hl : raw l) (hth : threads = 1\/threads = 2) :
  Calls Tryz.prog 15 #[cfg k t n e l,.int .i64 kind,.int .i64 threads] w fun r w'=>r = .returned (cfg kind (cT threads t) (cN n) (cE e) (cL l))/\Fr (fun _=>False) w w':=by
 have HT:=(mkH (raw t/\raw n/\raw e/\raw l) <|⟨ht,hn,he,hl⟩);have h1:=pickN_in (c:=t) (n:=9 - threads) (by omega);have h2:=pickN_in (c:=n) (n:=65) (by omega);have h3:=pickN_in (c:=e) (n:=256) (by omega);have h4:=pickN_in (c:=l) (n:=1099511627777) (by omega);obtain ⟨h1a,h1b⟩:=h1;obtain ⟨h2a,h2b⟩:=h2;obtain ⟨h3a,h3b⟩:=h3;obtain ⟨h4a,h4b⟩:=h4;have hta : 1<=threads/\threads<=2:=by omega
 obtain ⟨hta1,hta2⟩:=hta;have HE:=(mkH (cT threads t = threads + pickN t (9 - threads)/\cN n = pickN n 65/\cE e = 1 + pickN e 256/\cL l = pickN l 1099511627777) <|⟨rfl,rfl,rfl,rfl⟩);clear ht hn he hl hth;unfold cfg
 go_enter Tryz.func15,Tryz.ntmps15
 go_wp2_with fail;refine (lpick_calls t (9 - threads) HT.out.1 (by omega) _).mono ?_;rintro r w1 ⟨rfl,rfl⟩;go_wp2_with fail;refine (lpick_calls n 65 HT.out.2.1 (by omega) _).mono ?_;rintro r w1 ⟨rfl,rfl⟩;go_wp2_with fail;refine (lpick_calls e 256 HT.out.2.2.1 (by omega) _).mono ?_;rintro r w1 ⟨rfl,rfl⟩;go_wp2_with fail;refine (lpick_calls l 1099511627777 HT.out.2.2.2 (by omega) _).mono ?_;rintro r w1 ⟨rfl,rfl⟩;go_wp2;refine bodyPost_ret (v:=cfg kind (cT threads t) (cN n) (cE e) (cL l)) (by simp [results,Tryz.results15,go_sem,cfg,cT,cN,cE,cL]) rfl ⟨by unfold cfg; rfl,?_⟩
 repeat (with_reducible first | refine Fr.setNew (by simp) ?_ _ _ | refine Fr.alloc ?_ _ | exact Fr.refl _ _)
end
section
open Go.RowKit
theorem Tryz.infoBoolP : (Tryz.prog.info? 4).map (fun i=>(i.zero,i.size,i.bytes)) = some (some (.bool false),1,1):=by kernel_rfl
theorem Tryz.infoOpP : (Tryz.prog.info? 53).map (fun i=>(i.zero,i.size,i.bytes)) = some (some (.agg #[.int .i64 0,.int .i64 0,.int .i64 0,.slice none 0 0]),4,48):=by kernel_rfl
def blankOp : OpV:=⟨0,0,0,[],.slice none 0 0⟩
theorem rep_succ {α : Type} (a : α) (j : Nat) : List.replicate j a ++ [a] = List.replicate (j + 1) a:=by
 rw [List.replicate_succ']
theorem fit_fresh {κ t n e l : Int} (hκ : κ = 0\/κ = 1) (ht : 1<=t/\t<=8) (hl : 0<=l/\l<=1099511627776) : Fit 0 (freshP κ t n e l):=by
 refine ⟨hκ,⟨by show (0 : Int)<=0; omega,hl.1⟩,hl.2,by simp [freshP]; omega,by simp [freshP,PSweep.zero],?_⟩;intro i u hu
 have:=(List.mem_replicate.1 (List.mem_of_getElem? (show (List.replicate t.toNat PThread.zero)[i]? = some u from hu))).2
 subst this;exact ⟨fun hb=>by simp [PThread.zero] at hb,SmallAns.zero rfl⟩
structure Grown (κ : Int) (w0 w : World) (pb s : Nat) (t n e l : Int) (bv ov fv : Value) (jb jo jf : Nat) : Prop where
 at_ : At w pb [pv s,.int .i64 κ,.int .i64 t,.int .i64 n,.int .i64 e,.int .i64 l,bv,ov,fv,.slice none 0 0,.int .i64 0,.int .i64 0] 42
 b : w.ownsRow 0 4 1 bv jb (boolCells (List.replicate jb false))
 o : w.ownsRow 0 53 4 ov jo ((List.replicate jo blankOp).flatMap OpV.cells)
 f : w.ownsRow 0 3 1 fv jf (intCells (List.replicate jf 0))
 nb : ∀ k,bv.ownBlock = some k->w0.heap.size<=k
 no : ∀ k,ov.ownBlock = some k->w0.heap.size<=k
 nf : ∀ k,fv.ownBlock = some k->w0.heap.size<=k
 np : w0.heap.size<=pb
 fr : Fr (fun _=>False) w0 w
section
variable {κ : Int} {w0 w : World} {pb s : Nat} {t n e l : Int} {bv ov fv : Value} {jb jo jf : Nat}
theorem apartBlk {v u : Value} (h : v.ownBlock = none\/v.ownBlock≠u.ownBlock) : ∀ k,u.ownBlock = some k->¬ v.ownBlock = some k:=by
 intro k hk hb;rcases h with h1 | h1
 ·rw [h1] at hb; cases hb
 ·rw [hb,hk] at h1; exact h1 rfl
theorem Grown.pushB (h : Grown κ w0 w pb s t n e l bv ov fv jb jo jf) {w5 : World} {g cap : Nat} {ob : Obj} (hown : w5.ownsRow 0 4 1 (.slice (some ⟨g,0,none⟩) (jb + 1) cap) (jb + 1) (boolCells (List.replicate jb false) ++ [.bool false])) (hgr : (w.alloc ob).grownBy w5 bv.ownBlock) (hge : bv.ownBlock = some g\/w.heap.size<=g) :
  Grown κ w0 (w5.setCell ⟨pb,6,none⟩ (.slice (some ⟨g,0,none⟩) (jb + 1) cap)) pb s t n e l (.slice (some ⟨g,0,none⟩) (jb + 1) cap) ov fv (jb + 1) (jo) (jf):=by
 have hF : Fr (fun k=>bv.ownBlock = some k) w w5:=Fr.grown ((Fr.refl _ _).alloc ob) hgr (fun k hk=>.inl hk);have hA : At w5 pb _ 42:=hF.at h.at_ (h.at_.ne_row h.b (by decide));have hne:=hA.ne_row hown (by decide);have hr:=ownsRow_setOther hown (a:=⟨pb,6,none⟩) hne (.slice (some ⟨g,0,none⟩) (jb + 1) cap);have hn : ∀ k,(Value.slice (some ⟨g,0,none⟩) (jb + 1) cap).ownBlock = some k->w0.heap.size<=k:=by
  intro k hk;simp [Value.ownBlock] at hk;subst hk;rcases hge with h1 | h1
  ·exact h.nb _ h1
  ·have:=h.fr.size; omega
 refine ⟨hA.set 6 _,?_,ownsRow_setOther (hF.owns h.o (apartBlk (ownsRow_ne h.b h.o (by decide)))) (h.at_.ne_row h.o (by decide)) _,ownsRow_setOther (hF.owns h.f (apartBlk (ownsRow_ne h.b h.f (by decide)))) (h.at_.ne_row h.f (by decide)) _,hn,h.no,h.nf,h.np,Fr.setNew h.np (Fr.transNew h.fr hF (fun k hk=>.inr (h.nb k hk))) 6 _⟩;rw [show boolCells (List.replicate (jb + 1) false) = boolCells (List.replicate jb false) ++ [.bool false] from by rw [<- rep_succ]; simp [boolCells]];exact hr
theorem Grown.pushO (h : Grown κ w0 w pb s t n e l bv ov fv jb jo jf) {w5 : World} {g cap : Nat} {ob : Obj} (hown : w5.ownsRow 0 53 4 (.slice (some ⟨g,0,none⟩) (jo + 1) cap) (jo + 1) ((List.replicate jo blankOp).flatMap OpV.cells ++ [.int .i64 0,.int .i64 0,.int .i64 0,.slice none 0 0])) (hgr : (w.alloc ob).grownBy w5 ov.ownBlock) (hge : ov.ownBlock = some g\/w.heap.size<=g) :
  Grown κ w0 (w5.setCell ⟨pb,7,none⟩ (.slice (some ⟨g,0,none⟩) (jo + 1) cap)) pb s t n e l bv (.slice (some ⟨g,0,none⟩) (jo + 1) cap) fv (jb) (jo + 1) (jf):=by
 have hF : Fr (fun k=>ov.ownBlock = some k) w w5:=Fr.grown ((Fr.refl _ _).alloc ob) hgr (fun k hk=>.inl hk);have hA : At w5 pb _ 42:=hF.at h.at_ (h.at_.ne_row h.o (by decide));have hne:=hA.ne_row hown (by decide);have hr:=ownsRow_setOther hown (a:=⟨pb,7,none⟩) hne (.slice (some ⟨g,0,none⟩) (jo + 1) cap);have hn : ∀ k,(Value.slice (some ⟨g,0,none⟩) (jo + 1) cap).ownBlock = some k->w0.heap.size<=k:=by
  intro k hk;simp [Value.ownBlock] at hk;subst hk;rcases hge with h1 | h1
  ·exact h.no _ h1
  ·have:=h.fr.size; omega
 refine ⟨hA.set 7 _,ownsRow_setOther (hF.owns h.b (apartBlk (ownsRow_ne h.o h.b (by decide)))) (h.at_.ne_row h.b (by decide)) _,?_,ownsRow_setOther (hF.owns h.f (apartBlk (ownsRow_ne h.o h.f (by decide)))) (h.at_.ne_row h.f (by decide)) _,h.nb,hn,h.nf,h.np,Fr.setNew h.np (Fr.transNew h.fr hF (fun k hk=>.inr (h.no k hk))) 7 _⟩;rw [show (List.replicate (jo + 1) blankOp).flatMap OpV.cells = (List.replicate jo blankOp).flatMap OpV.cells ++ [.int .i64 0,.int .i64 0,.int .i64 0,.slice none 0 0] from by rw [<- rep_succ,List.flatMap_append]; rfl];exact hr
theorem Grown.pushF (h : Grown κ w0 w pb s t n e l bv ov fv jb jo jf) {w5 : World} {g cap : Nat} {ob : Obj} (hown : w5.ownsRow 0 3 1 (.slice (some ⟨g,0,none⟩) (jf + 1) cap) (jf + 1) (intCells (List.replicate jf 0) ++ [.int .i64 0])) (hgr : (w.alloc ob).grownBy w5 fv.ownBlock) (hge : fv.ownBlock = some g\/w.heap.size<=g) :
  Grown κ w0 (w5.setCell ⟨pb,8,none⟩ (.slice (some ⟨g,0,none⟩) (jf + 1) cap)) pb s t n e l bv ov (.slice (some ⟨g,0,none⟩) (jf + 1) cap) (jb) (jo) (jf + 1):=by
 have hF : Fr (fun k=>fv.ownBlock = some k) w w5:=Fr.grown ((Fr.refl _ _).alloc ob) hgr (fun k hk=>.inl hk);have hA : At w5 pb _ 42:=hF.at h.at_ (h.at_.ne_row h.f (by decide));have hne:=hA.ne_row hown (by decide);have hr:=ownsRow_setOther hown (a:=⟨pb,8,none⟩) hne (.slice (some ⟨g,0,none⟩) (jf + 1) cap);have hn : ∀ k,(Value.slice (some ⟨g,0,none⟩) (jf + 1) cap).ownBlock = some k->w0.heap.size<=k:=by
  intro k hk;simp [Value.ownBlock] at hk;subst hk;rcases hge with h1 | h1
  ·exact h.nf _ h1
  ·have:=h.fr.size; omega
 refine ⟨hA.set 8 _,ownsRow_setOther (hF.owns h.b (apartBlk (ownsRow_ne h.f h.b (by decide)))) (h.at_.ne_row h.b (by decide)) _,ownsRow_setOther (hF.owns h.o (apartBlk (ownsRow_ne h.f h.o (by decide)))) (h.at_.ne_row h.o (by decide)) _,?_,h.nb,h.no,hn,h.np,Fr.setNew h.np (Fr.transNew h.fr hF (fun k hk=>.inr (h.nf k hk))) 8 _⟩;rw [show intCells (List.replicate (jf + 1) 0) = intCells (List.replicate jf 0) ++ [.int .i64 0] from by rw [<- rep_succ]; simp [intCells]];exact hr
end
section
variable {own : Own} {z : Nat}
structure FreshPl (κ t n e l : Int) (D : PlD) : Prop where
 P : D.P = freshP κ t n e l
 N : D.N = 0
 ok : D.ok
 cfg : D.k = κ/\D.t = t/\D.n = n/\D.e = e/\D.l = l
 deeds : D.deeds = []
 cnt : D.puts = 0/\D.takes = 0
theorem Grown.player {w w0 w' : World} {pb : Nat} {κ t n e l : Int} {bv ov fv : Value} {L : XLay} (hκ : κ = 0\/κ = 1) (ht : 1<=t/\t<=8) (hl : 0<=l/\l<=1099511627776) (hX : XAt w0 L (freshX κ t n e l)) (hL : ∀ b,L.own b->w.heap.size<=b) (hw : w.heap.size<=w0.heap.size) (hf : Fr (fun _=>False) w w0)
  (h : Grown κ w0 w' pb L.s t n e l bv ov fv t.toNat t.toNat t.toNat) : ∃ own' D,PlAt own' z w' pb D/\Ext own own' w/\FreshPl κ t n e l D/\Fr (fun _=>False) w w':=by
 obtain ⟨own1,L',hZ,hE1,es⟩:=ZAt.ofNew (own:=own) (z:=z) (w:=w) hX hL ht.2;obtain ⟨own2,ho2⟩ : ∃ own2 : Own,own2 = fun k=>if k = pb then ⟨z + 1,.store⟩ else if bv.ownBlock = some k then ⟨z + 1,.oth 1⟩ else if ov.ownBlock = some k then ⟨z + 1,.oth 2⟩ else if fv.ownBlock = some k then ⟨z + 1,.oth 3⟩ else own1 k:=⟨_,rfl⟩
 have hE2 : Ext own1 own2 w0:=by
  intro k hk;rw [ho2];simp only;rw [if_neg (fun e=>by have:=h.np; omega),if_neg (fun e=>by have:=h.nb k e; omega),if_neg (fun e=>by have:=h.no k e; omega),if_neg (fun e=>by have:=h.nf k e; omega)]
 have pne : ∀ k v (n : Nat) xs T sz,w'.ownsRow 0 T sz v n xs->T≠42->v.ownBlock = some k->k≠pb:=by
  rintro k v n xs T sz hr hT hk rfl;exact h.at_.ne_row hr (fun e=>hT e.symm) hk
 have o1 : ∀ k,bv.ownBlock = some k->own2 k = ⟨z + 1,.oth 1⟩:=by
  intro k hk; rw [ho2]; simp only;rw [if_neg (pne k _ _ _ _ _ h.b (by decide) hk),if_pos hk]
 have o2 : ∀ k,ov.ownBlock = some k->own2 k = ⟨z + 1,.oth 2⟩:=by
  intro k hk; rw [ho2]; simp only;rw [if_neg (pne k _ _ _ _ _ h.o (by decide) hk),if_neg (apartBlk (ownsRow_ne h.b h.o (by decide)) k hk),if_pos hk]
 have o3 : ∀ k,fv.ownBlock = some k->own2 k = ⟨z + 1,.oth 3⟩:=by
  intro k hk; rw [ho2]; simp only;rw [if_neg (pne k _ _ _ _ _ h.f (by decide) hk),if_neg (apartBlk (ownsRow_ne h.b h.f (by decide)) k hk),if_neg (apartBlk (ownsRow_ne h.o h.f (by decide)) k hk),if_pos hk]
 have hop : own2 pb = ⟨z + 1,.store⟩:=by rw [ho2]; simp
 have hlen : (freshP κ t n e l).ts.length = t.toNat:=by simp [freshP]
 refine ⟨own2,{ L:=L',P:=freshP κ t n e l,N:=0,k:=κ,t:=t,n:=n,e:=e,l:=l,bv:=bv,ov:=ov,fv:=fv,dv:=.slice none 0 0,bs:=List.replicate t.toNat false,ops:=List.replicate t.toNat blankOp,frm:=List.replicate t.toNat 0,deeds:=[],puts:=0,takes:=0 },⟨?_,hop,hZ.fr h.fr hE2 (fun _ _ h=>h),fit_fresh hκ ht hl,by rw [hlen]; show t = _; omega,⟨by rw [hlen]; exact h.b,o1⟩,by rw [hlen]; simp,⟨by rw [hlen]; exact h.o,o2⟩,by rw [hlen]; simp,⟨by rw [hlen]; exact h.f,o3⟩,by rw [hlen]; simp,Row.nil _ _ _ _ _ _,?_,by simp⟩,?_,⟨rfl,rfl,?_,⟨rfl,rfl,rfl,rfl,rfl⟩,rfl,⟨rfl,rfl⟩⟩,hf.trans h.fr⟩
 ·have:=h.at_
  simp only [PlD.cells,es];exact this
 ·intro o ho
  have:=(List.mem_replicate.1 ho).2
  subst this;exact Row.nil _ _ _ _ _ _
 ·intro k hk; rw [hE2 k (by omega)]; exact hE1 k hk
 ·show List.replicate t.toNat false = (List.replicate t.toNat PThread.zero).map (·.busy);rw [List.map_replicate]; rfl
theorem player_calls (κ t n e l : Int) (w : World) (own : Own) (z : Nat) (hok : okCfg κ t n e l = true) :
  Calls Tryz.prog 16 #[cfg κ t n e l] w fun r w'=>∃ pb,r = .returned (pv pb)/\∃ own' D,PlAt own' z w' pb D/\Ext own own' w/\FreshPl κ t n e l D/\Fr (fun _=>False) w w':=by
 obtain ⟨hκ,ht,hn,he,hl⟩ : (0<=κ/\κ<=1)/\(1<=t/\t<=8)/\(0<=n/\n<=64)/\(1<=e/\e<=256)/\(0<=l/\l<=1099511627776):=by
  simp only [okCfg,Bool.and_eq_true,isIn_iff] at hok;omega
 obtain ⟨iB,hiB,hzB,hsB,hbB⟩:=info_parts Tryz.infoBoolP;obtain ⟨iO,hiO,hzO,hsO,hbO⟩:=info_parts Tryz.infoOpP;obtain ⟨iI,hiI,hzI,hsI,hbI⟩:=info_parts Tryz.infoIntZ;have HOK : Hid _:=hok;have HK:=(mkH (κ = 0\/κ = 1) <|(show κ = 0\/κ = 1 by omega));have HLm:=(mkH (0<=l/\l<=1099511627776) <|hl);obtain ⟨ht1,ht2⟩:=ht;clear hok hn he hl hκ;unfold cfg
 go_enter Tryz.func16,Tryz.ntmps16
 go_wp2_with fail;refine (XNew_yes κ t n e l _ HOK.out).mono ?_;rintro r w1 ⟨L,rfl,hX,hF1,hL⟩;have hC : At w1 w.heap.size [.int .i64 κ,.int .i64 t,.int .i64 n,.int .i64 e,.int .i64 l] 23:=hF1.at (At.new w _ _) (fun h=>h);have hcc:=hC.cell;have HC:=(mkH (At w1 w.heap.size _ 23) <|hC);have HF1:=(mkH (Fr (fun _=>False) w w1) <|((Fr.refl _ _).alloc _).trans hF1);have HX:=(mkH (XAt _ _ _) <|hX);simp only [World.size_alloc] at hL;have HL:=(mkH (∀ b,L.own b->w.heap.size<=b) <|fun b hb=>by have:=hL b hb; omega);clear hF1 hC hX hL;go_wp2_with fail;have HG0 : Hid (Grown κ w1 (w1.alloc (.cells #[.pointer (some ⟨L.s,0,none⟩),.int .i64 κ,.int .i64 t,.int .i64 n,.int .i64 e,.int .i64 l,.slice none 0 0,.slice none 0 0,.slice none 0 0,.slice none 0 0,.int .i64 0,.int .i64 0] 42)) w1.heap.size L.s t n e l (.slice none 0 0) (.slice none 0 0) (.slice none 0 0) 0 0 0) :=
  ⟨At.new w1 _ _,⟨by simp [boolCells],.inl ⟨rfl,rfl⟩⟩,⟨by simp,.inl ⟨rfl,rfl⟩⟩,⟨by simp [intCells],.inl ⟨rfl,rfl⟩⟩,by intro k hk; simp [Value.ownBlock] at hk,by intro k hk; simp [Value.ownBlock] at hk,by intro k hk; simp [Value.ownBlock] at hk,Nat.le_refl _,(Fr.refl _ _).alloc _⟩
 generalize hpb : w1.heap.size = pb at HG0 ⊢;clear hcc
 go_loopw [6] (fun i wr=>∃ j : Nat,(j : Int)<=t/\i = .int .i64 j/\∃ bv ov fv,Hid (Grown κ w1 wr pb L.s t n e l bv ov fv j j j)) (fun i _=>(t - intOf i).toNat)
 case atStart=>exact ⟨0,by omega,rfl,_,_,_,HG0⟩
 case round =>
  clear HG0;obtain ⟨j,hj,rfl,bv,ov,fv,HG⟩:=hrel;have hcc:=(HG.out.fr.at HC.out (fun h=>h)).cell;have ha:=HG.out.at_.cell;have hz:=HG.out.at_.frozen;have hpl:=HG.out.at_.lt;simp only [pv] at ha;by_cases hlt : (j : Int) < t
  ·have hne : w.heap.size≠pb:=(HG.out.fr.at HC.out (fun h=>h)).ne HG.out.at_ (by decide);obtain ⟨ba,bc,hbv⟩:=ownsShape HG.out.b;obtain ⟨oa,oc,hov⟩:=ownsShape HG.out.o;obtain ⟨fa,fc,hfv⟩:=ownsShape HG.out.f;subst hbv hov hfv;go_wp2_with (at_builtin; refine wpList_push _ rfl _ _ 37 rfl 0 4 iB _ 1 1 Tryz.underlying37 hiB hzB hsB hbB rfl (by decide) _ _ _ rfl (ownsRow_alloc HG.out.b _) wr.heap.size [.bool false] rfl rfl 4 (At.newAt (by simp) _ _) (by simp [Value.oneCell']) (by unfold maxLen; omega) (by omega) (by simp) ?_);intro g1 k1 w2 hown hgr hge;have hA2 : At w2 pb _ 42:=(Fr.grown ((Fr.refl (fun k=>(Value.slice ba j bc).ownBlock = some k) wr).alloc _) hgr (fun k hk=>.inl hk)).at HG.out.at_ (HG.out.at_.ne_row HG.out.b (by decide));have HG1:=(mkH (Grown κ w1 _ pb L.s t n e l _ _ _ (j + 1) j j) <|HG.out.pushB hown hgr (by rcases hge with h | h; exact .inl h; exact .inr (by first | omega | (simp at h; omega))));have ha2:=hA2.cell;have hz2:=hA2.frozen;have hl2:=hA2.lt;simp only [pv] at ha2;clear hown hgr hge hA2 ha hz hpl HG hcc;obtain ⟨w3,hw3⟩ : ∃ w3,w3 = w2.setCell ⟨pb,6,none⟩ (.slice (some ⟨g1,0,none⟩) (j + 1) k1):=⟨_,rfl⟩;rw [<- hw3] at HG1;have ha3 : ∀ o,(w2.setCell ⟨pb,6,none⟩ (.slice (some ⟨g1,0,none⟩) (j + 1) k1)).cell? ⟨pb,o,none⟩ = [Value.pointer (some ⟨L.s,0,none⟩),.int .i64 κ,.int .i64 t,.int .i64 n,.int .i64 e,.int .i64 l,.slice (some ⟨g1,0,none⟩) (j + 1) k1,.slice oa j oc,.slice fa j fc,.slice none 0 0,.int .i64 0,.int .i64 0][o]?:=by rw [<- hw3]; exact HG1.out.at_.cell
   have hR1 : (w2.setCell ⟨pb,6,none⟩ (.slice (some ⟨g1,0,none⟩) (j + 1) k1)).ownsRow 0 53 4 (.slice oa j oc) j ((List.replicate j blankOp).flatMap OpV.cells):=by rw [<- hw3]; exact HG1.out.o
   have HR1:=(mkH (World.ownsRow _ 0 _ _ _ _ _) <|hR1);clear hR1;go_wp2_with (at_builtin; refine wpList_push _ rfl _ _ 38 rfl 0 53 iO _ 4 48 Tryz.underlying38 hiO hzO hsO hbO rfl (by decide) _ _ _ rfl (ownsRow_alloc HR1.out _) w2.heap.size [.int .i64 0,.int .i64 0,.int .i64 0,.slice none 0 0] rfl rfl 53 (At.newAt (by simp) _ _) (by simp [Value.oneCell']) (by unfold maxLen; omega) (by omega) (by simp) ?_);intro g2 k2 w4 hown hgr hge;rw [<- hw3] at hgr;have hA4 : At w4 pb _ 42:=(Fr.grown ((Fr.refl (fun k=>(Value.slice oa j oc).ownBlock = some k) w3).alloc _) hgr (fun k hk=>.inl hk)).at HG1.out.at_ (HG1.out.at_.ne_row HG1.out.o (by decide));have HG2:=(mkH (Grown κ w1 _ pb L.s t n e l _ _ _ (j + 1) (j + 1) j) <|HG1.out.pushO hown hgr (by rcases hge with h | h; exact .inl h; exact .inr (by rw [hw3]; first | omega | (simp at h ⊢; omega))));have ha4:=hA4.cell;have hz4:=hA4.frozen;have hl4:=hA4.lt;simp only [pv] at ha4;clear hown hgr hge hA4 ha2 hz2 hl2 HG1 ha3 hw3 HR1;obtain ⟨w5,hw5⟩ : ∃ w5,w5 = w4.setCell ⟨pb,7,none⟩ (.slice (some ⟨g2,0,none⟩) (j + 1) k2):=⟨_,rfl⟩;rw [<- hw5] at HG2;have ha5 : ∀ o,(w4.setCell ⟨pb,7,none⟩ (.slice (some ⟨g2,0,none⟩) (j + 1) k2)).cell? ⟨pb,o,none⟩ = [Value.pointer (some ⟨L.s,0,none⟩),.int .i64 κ,.int .i64 t,.int .i64 n,.int .i64 e,.int .i64 l,.slice (some ⟨g1,0,none⟩) (j + 1) k1,.slice (some ⟨g2,0,none⟩) (j + 1) k2,.slice fa j fc,.slice none 0 0,.int .i64 0,.int .i64 0][o]?:=by rw [<- hw5]; exact HG2.out.at_.cell
   have HR2:=(mkH ((w4.setCell ⟨pb,7,none⟩ (.slice (some ⟨g2,0,none⟩) (j + 1) k2)).ownsRow 0 3 1 (.slice fa j fc) j (intCells (List.replicate j 0))) <|by rw [<- hw5]; exact HG2.out.f);go_wp2_with (at_builtin; refine wpList_push _ rfl _ _ 39 rfl 0 3 iI _ 1 8 Tryz.underlying39 hiI hzI hsI hbI rfl (by decide) _ _ _ rfl (ownsRow_alloc HR2.out _) w4.heap.size [.int .i64 0] rfl rfl 3 (At.newAt (by simp) _ _) (by simp [Value.oneCell']) (by unfold maxLen; omega) (by omega) (by simp) ?_);intro g3 k3 w6 hown hgr hge;rw [<- hw5] at hgr;have hA6 : At w6 pb _ 42:=(Fr.grown ((Fr.refl (fun k=>(Value.slice fa j fc).ownBlock = some k) w5).alloc _) hgr (fun k hk=>.inl hk)).at HG2.out.at_ (HG2.out.at_.ne_row HG2.out.f (by decide));have HG3:=(mkH (Grown κ w1 _ pb L.s t n e l _ _ _ (j + 1) (j + 1) (j + 1)) <|HG2.out.pushF hown hgr (by rcases hge with h | h; exact .inl h; exact .inr (by rw [hw5]; first | omega | (simp at h ⊢; omega))));have ha6:=hA6.cell;have hz6:=hA6.frozen;have hl6:=hA6.lt;simp only [pv] at ha6;clear hown hgr hge hA6 ha4 hz4 hl4 HG2 ha5 hw5 HR2;go_wp2
   go_roundw
   case rel=>exact ⟨j + 1,by omega,by go_num,_,_,_,HG3⟩
   case measure=>simp [intOf]; omega
  ·have hjt : j = t.toNat:=by omega
   have HGt:=(mkH (Grown κ w1 wr pb L.s t n e l bv ov fv t.toNat t.toNat t.toNat) <|by rw [<- hjt]; exact HG.out);clear hjt;go_wp2;go_ret;obtain ⟨own',D,h1,h2,h3,h4⟩:=HGt.out.player (own:=own) (z:=z) HK.out ⟨ht1,ht2⟩ HLm.out HX.out HL.out HF1.out.size HF1.out;exact ⟨pb,rfl,own',D,h1,h2,h3,h4⟩
end
end
section
open Go.RowKit
def PSt.iter (P : PSt) (i : Nat) : Nat->PSt
 | 0=>P
 | j + 1=>((P.iter i j).step i ((P.iter i j).th i)).1
def PSt.how (P : PSt) (i j : Nat) : Int:=((P.iter i j).step i ((P.iter i j).th i)).2
def PSt.swIter (P : PSt) : Nat->PSt
 | 0=>P
 | j + 1=>(P.swIter j).doSweep.1
structure Iter (D : PlD) (i j : Nat) (D' : PlD) : Prop where
 P : D'.P = D.P.iter i j
 N : D'.N = D.N + j
 cfg : D'.k = D.k/\D'.t = D.t/\D'.n = D.n/\D'.e = D.e/\D'.l = D.l
 same : D'.ops = D.ops/\D'.frm = D.frm/\D'.puts = D.puts/\D'.takes = D.takes/\D'.bs = D.bs/\D'.deeds = D.deeds
 busy : ∃ t,D'.P.ts[i]? = some t/\t.busy = true
structure Soloed (D : PlD) (i m : Nat) (D' : PlD) : Prop where
 P : D'.P = D.P.iter i (m + 1)
 N : D'.N = D.N + m + 1
 cfg : D'.k = D.k/\D'.t = D.t/\D'.n = D.n/\D'.e = D.e/\D'.l = D.l
 same : D'.ops = D.ops/\D'.frm = D.frm/\D'.puts = D.puts/\D'.takes = D.takes
 bs : D'.bs = D.bs.set i false
 deeds : ∃ av o f,D.ops[i]? = some o/\D.frm[i]? = some f/\D'.deeds = D.deeds ++ [⟨o,((D.P.iter i m).th i).work.ans,av,f⟩]
section
variable {own : Own} {z : Nat} {w w' : World} {pb : Nat} {D D1 : PlD} {i j : Nat} {t : PThread}
theorem th_of {P : PSt} (h : P.ts[i]? = some t) : P.th i = t:=by simp [PSt.th,h]
theorem Iter.next (h : Iter D i j D1) (hf : Fit D1.N D1.P) {D2 : PlD} (hs : Stepped D1 i (D1.P.th i) D2) (h1 : D.P.how i j = 1) : Iter D i (j + 1) D2:=by
 obtain ⟨t,ht,hb⟩:=h.busy;have hth:=th_of ht;have hP : D2.P = D.P.iter i (j + 1):=by rw [hs.P,PSt.iter,h.P]
 have h2 : (D1.P.step i (D1.P.th i)).2 = 1:=by rw [h.P]; exact h1
 refine ⟨hP,by rw [hs.N,h.N]; omega,?_,⟨hs.ops.trans h.same.1,hs.frm.trans h.same.2.1,hs.cnt.1.trans h.same.2.2.1,hs.cnt.2.trans h.same.2.2.2.1,?_,?_⟩,?_⟩
 ·obtain ⟨a1,a2,a3,a4,a5⟩:=hs.cfg;obtain ⟨b1,b2,b3,b4,b5⟩:=h.cfg;exact ⟨a1.trans b1,a2.trans b2,a3.trans b3,a4.trans b4,a5.trans b5⟩
 ·rw [hs.bs,if_neg (by omega)]; exact h.same.2.2.2.2.1
 ·rw [hs.deeds.1 (by omega)]; exact h.same.2.2.2.2.2
 ·rw [hth] at h2 hs;obtain ⟨M,c,t',e,_,_,_,hb',_⟩:=(hf.turn ht hb).to;refine ⟨t',?_,?_⟩
  ·rw [hs.P,e]
   have:=(List.getElem?_eq_some_iff.1 ht).1
   simp [this]
  ·rw [hb',if_neg (by omega)]
theorem Psolo_calls (h : PlAt own z w pb D) (hn : 0<=D.n/\D.n<=64) (hb : D.bs[i]? = some true) (ht : D.P.ts[i]? = some t) (htb : t.busy = true) (hN : D.N<=2 ^ 38) (hdl : D.deeds.length<=2 ^ 38) (m : Nat) (hm : (m : Int) < D.n + 16) (hmv : ∀ j,j < m->D.P.how i j = 1) (hend : D.P.how i m = 3) :
  Calls Tryz.prog 30 #[pv pb,.int .i64 i] w fun r w'=>r = .returned (.bool true)/\PlGoes own z w pb w' (Soloed D i m):=by
 obtain ⟨hn1,hn2⟩:=hn;have H:=(mkH (PlAt own z w pb D) <|h);have HI:=(mkH (Iter D i 0 D) <|⟨rfl,rfl,⟨rfl,rfl,rfl,rfl,rfl⟩,⟨rfl,rfl,rfl,rfl,rfl,rfl⟩,t,ht,htb⟩);have HB:=(mkH (D.bs[i]? = some true) <|hb);have HM:=(mkH (∀ j,j < m->D.P.how i j = 1) <|hmv);have HE:=(mkH (D.P.how i m = 3) <|hend);clear h ht htb hb hmv hend;unfold pv
 go_enter Tryz.func30,Tryz.ntmps30
 go_wp2
 go_loopw [5] (fun v wr=>∃ j : Nat,j<=m/\v = .int .i64 j/\Hid (PlGoes own z w pb wr (Iter D i j))) (fun v _=>m + 1 - (intOf v).toNat)
 case atStart=>exact ⟨0,by omega,rfl,own,D,H.out,Ext.refl _ _,Fr.refl _ _,HI.out⟩
 case round =>
  clear H;obtain ⟨j,hj,rfl,HG⟩:=hrel;obtain ⟨own1,D1,hP,hE,hF,hI⟩:=HG.out;have HP:=(mkH (PlAt own1 z wr pb D1) <|hP);have HX:=(mkH (Ext own own1 w/\FrP own z w wr) <|⟨hE,hF⟩);have HIt:=(mkH (Iter D i j D1) <|hI);have ha:=hP.at_.cell;simp only [PlD.cells,hI.cfg.2.2.1,pv] at ha;clear hP hE hF hI HG;obtain ⟨t1,ht1,hb1⟩:=HIt.out.busy;have HT:=(mkH (D1.P.ts[i]? = some t1/\t1.busy = true/\D1.P.th i = t1) <|⟨ht1,hb1,th_of ht1⟩);have HBs:=(mkH (D1.bs[i]? = some true) <|by show _ = _; rw [HIt.out.same.2.2.2.2.1]; exact HB.out);have HD:=(mkH (D1.N < 2 ^ 39/\D1.deeds.length<=2 ^ 38) <|⟨by rw [HIt.out.N]; omega,by rw [HIt.out.same.2.2.2.2.2]; exact hdl⟩);clear ht1 hb1;by_cases hlt : j < m
  ·have h1:=HM.out j hlt;have HH:=(mkH ((D1.P.step i t1).2 = 1) <|by show _ = _; rw [<- HT.out.2.2,HIt.out.P]; exact h1);go_wp2_with fail;refine (Psteps_on HP.out HBs.out HT.out.1 HT.out.2.1 HD.out.1 (by rw [HH.out]; decide)).mono ?_;rw [HH.out];rintro r w2 ⟨rfl,own2,D2,hP2,hE2,hF2,hS2⟩;have HG2:=(mkH (PlGoes own z w pb w2 (Iter D i (j + 1))) <|PlGoes.trans HX.out.1 HX.out.2 ⟨own2,D2,hP2,hE2,hF2,HIt.out.next HP.out.fit (by rw [HT.out.2.2]; exact hS2) h1⟩);clear hP2 hE2 hF2 hS2 h1;go_wp2
   go_roundw
   case rel=>exact ⟨j + 1,by omega,by go_num,HG2⟩
   case measure=>simp [intOf]; omega
  ·have hjm : Hid (j = m):=by show j = m; omega
   have HH:=(mkH ((D1.P.step i t1).2 = 3) <|by show _ = _; rw [<- HT.out.2.2,HIt.out.P,hjm.out]; exact HE.out);go_wp2_with fail;refine (Psteps_end HP.out HBs.out HT.out.1 HT.out.2.1 HD.out.1 HD.out.2 HH.out).mono ?_;rintro r w2 ⟨rfl,own2,D2,hP2,hE2,hF2,hS2⟩;have HG2:=(mkH (PlGoes own z w pb w2 (Soloed D i m)) <|PlGoes.trans HX.out.1 HX.out.2 ⟨own2,D2,hP2,hE2,hF2,by
    have hI:=HIt.out;rw [hjm.out] at hI;obtain ⟨av,o,f,q1,q2,q3⟩:=hS2.deeds.2 HH.out;refine ⟨?_,by rw [hS2.N,hI.N],?_,⟨hS2.ops.trans hI.same.1,hS2.frm.trans hI.same.2.1,hS2.cnt.1.trans hI.same.2.2.1,hS2.cnt.2.trans hI.same.2.2.2.1⟩,?_,?_⟩
    ·rw [hS2.P,PSt.iter,<- hI.P,HT.out.2.2]
    ·obtain ⟨a1,a2,a3,a4,a5⟩:=hS2.cfg;obtain ⟨b1,b2,b3,b4,b5⟩:=hI.cfg;exact ⟨a1.trans b1,a2.trans b2,a3.trans b3,a4.trans b4,a5.trans b5⟩
    ·rw [hS2.bs,if_pos HH.out,hI.same.2.2.2.2.1]
    ·refine ⟨av,o,f,by rw [<- hI.same.1]; exact q1,by rw [<- hI.same.2.1]; exact q2,?_⟩;rw [q3,hI.same.2.2.2.2.2,<- hI.P,HT.out.2.2]⟩)
   clear hP2 hE2 hF2 hS2;go_wp2;go_ret;exact ⟨rfl,HG2.out⟩
end
end
section
open Go.RowKit
def PSt.swHow (P : PSt) (j : Nat) : Int:=(P.swIter j).doSweep.2
def SwN (D : PlD) (j : Nat) (D' : PlD) : Prop:=∃ L',L'.s = D.L.s/\D' = { D with L:=L',P:=D.P.swIter j }
section
variable {own : Own} {z : Nat} {w w' : World} {pb : Nat} {D D1 : PlD} {i j : Nat}
theorem sweep_ts (P : PSt) : P.doSweep.1.ts = P.ts:=by
 unfold PSt.doSweep;simp only;split
 ·rfl
 ·split
  ·split <;> rfl
  ·split <;> rfl
theorem swIter_ts (P : PSt) : ∀ j,(P.swIter j).ts = P.ts
 | 0=>rfl
 | j + 1=>by rw [PSt.swIter,sweep_ts,swIter_ts P j]
theorem Pswept_calls (h : PlAt own z w pb D) (hmv : ∀ j,j < D.P.ts.length + 2->D.P.swHow j = 1) (hend : D.P.swHow (D.P.ts.length + 2) = 3) :
  Calls Tryz.prog 24 #[pv pb] w fun r w'=>r = .returned (.bool true)/\PlGoes own z w pb w' (SwN D (D.P.ts.length + 3)):=by
 have hT : (D.t : Int)<=64/\0<=D.t:=by have:=h.thr; have:=h.fit.thr; omega
 obtain ⟨T,hTe⟩ : ∃ T,Hid (T = D.P.ts.length):=⟨_,rfl⟩;have hTt : Hid (D.t = T):=by show D.t = T; rw [hTe.out]; exact h.thr
 have hTb : T<=64:=by have:=hTt.out; omega
 have H:=(mkH (PlAt own z w pb D) <|h);have HM:=(mkH (∀ j,j < T + 2->D.P.swHow j = 1) <|by rw [hTe.out]; exact hmv);have HE:=(mkH (D.P.swHow (T + 2) = 3) <|by rw [hTe.out]; exact hend);have HQ : ∀ w',Hid (PlGoes own z w pb w' (SwN D (T + 3)))->PlGoes own z w pb w' (SwN D (D.P.ts.length + 3)):=by
  intro w' hq; rw [<- hTe.out]; exact hq.out
 have HS:=(mkH (∀ j (own1 : Own) (w1 : World) (D1 : PlD),PlAt own1 z w1 pb D1->Ext own own1 w->FrP own z w w1->SwN D j D1->Calls Tryz.prog 42 #[pv D1.L.s] w1 fun r w2=>r = .returned (.int .i64 (D.P.swHow j))/\PlGoes own z w pb w2 (SwN D (j + 1))) <|by
  intro j own1 w1 D1 h1 hE hF hS;obtain ⟨L1,e1,rfl⟩:=hS;refine (ZSweep_fit h1.st h1.fit).mono ?_;rintro r w2 ⟨rfl,hG⟩;have hf:=(h1.fit.sweep h1.st.mem.nsmall).1;obtain ⟨own2,L2,hP2,hE2,hF2,e2⟩:=h1.store hG hf (by rw [sweep_ts]);exact ⟨rfl,PlGoes.trans hE hF ⟨own2,_,hP2,hE2,hF2,L2,e2.trans e1,rfl⟩⟩)
 clear h hmv hend hT hTe;unfold pv at HS ⊢
 go_enter Tryz.func24,Tryz.ntmps24
 go_wp2
 go_loopw [3] (fun v wr=>∃ j : Nat,j<=T + 2/\v = .int .i64 j/\Hid (PlGoes own z w pb wr (SwN D j))) (fun v _=>T + 3 - (intOf v).toNat)
 case atStart=>exact ⟨0,by omega,rfl,own,D,H.out,Ext.refl _ _,Fr.refl _ _,D.L,rfl,rfl⟩
 case round =>
  clear H;obtain ⟨j,hj,rfl,HG⟩:=hrel;obtain ⟨own1,D1,hP,hE,hF,hI⟩:=HG.out;have ha:=hP.at_.cell;have HC:=(mkH (PlAt own1 z wr pb D1/\Ext own own1 w/\FrP own z w wr/\SwN D j D1) <|⟨hP,hE,hF,hI⟩);have ht : D1.t = T:=by obtain ⟨L1,_,rfl⟩:=hI; exact hTt.out
  simp only [PlD.cells,ht,pv] at ha;clear hP hE hF hI HG ht;by_cases hlt : j < T + 2
  ·have h1:=HM.out j hlt;go_wp2_with fail;refine (HS.out j own1 wr D1 HC.out.1 HC.out.2.1 HC.out.2.2.1 HC.out.2.2.2).mono ?_;rw [h1];rintro r w2 ⟨rfl,hG2⟩;have HG2:=(mkH (PlGoes own z w pb w2 (SwN D (j + 1))) <|hG2);clear hG2 h1;go_wp2
   go_roundw
   case rel=>exact ⟨j + 1,by omega,by go_num,HG2⟩
   case measure=>simp [intOf]; omega
  ·have hjm : Hid (j = T + 2):=by show j = T + 2; omega
   have h1 : D.P.swHow j = 3:=by rw [hjm.out]; exact HE.out
   go_wp2_with fail;refine (HS.out j own1 wr D1 HC.out.1 HC.out.2.1 HC.out.2.2.1 HC.out.2.2.2).mono ?_;rw [h1];rintro r w2 ⟨rfl,hG2⟩;have HG2:=(mkH (PlGoes own z w pb w2 (SwN D (T + 3))) <|by rw [<- show j + 1 = T + 3 by rw [hjm.out]]; exact hG2);clear hG2 h1;go_wp2;go_ret;exact ⟨rfl,HQ _ HG2⟩
end
end
section
def spendN (k kind : Int) : Int:=if kind = 1 then 1 + k else 0
def spendE (k kind : Int) : Int:=if kind = 1 then 2 + k else 1
def spendErr (k lim kind n e c : Int) : Int:=if n < spendN k kind\/e < spendE k kind then 7 else if c = lim then 8 else 0
def shVal (ps : List (Int × Int)) (key : Int) : Int × Bool:=match ps.find? (fun p=>p.1 == key) with
 | some p=>(p.2,true)
 | none=>(0,false)
def shSide (key : Int) (below : Bool) (p : Int × Int) : Bool:=if below then decide (p.1 < key) else decide (key < p.1)
theorem shVal_hit {ps : List (Int × Int)} {key : Int} {j : Nat} {x : Int × Int} (h : ∀ p ∈ ps.take j,p.1≠key) (hx : ps[j]? = some x) (hk : x.1 = key) : shVal ps key = (x.2,true):=by
 have hj:=(List.getElem?_eq_some_iff.1 hx).1;have he : ps = ps.take j ++ x :: ps.drop (j + 1):=by
  rw [<- (List.getElem?_eq_some_iff.1 hx).2,List.getElem_cons_drop,List.take_append_drop]
 unfold shVal;rw [he,List.find?_append,List.find?_eq_none.2 (fun p hp=>by simpa using h p hp)];simp [hk]
theorem shVal_miss {ps : List (Int × Int)} {key : Int} (h : ∀ p ∈ ps,p.1≠key) : shVal ps key = (0,false):=by
 unfold shVal;rw [List.find?_eq_none.2 (fun p hp=>by simpa using h p hp)]
def shLo (ps : List (Int × Int)) (key : Int) : List (Int × Int):=ps.filter (shSide key true)
def shHi (ps : List (Int × Int)) (key : Int) : List (Int × Int):=ps.filter (shSide key false)
def shPut (ps : List (Int × Int)) (key value : Int) : List (Int × Int):=shLo ps key ++ [(key,value)] ++ shHi ps key
def shDel (ps : List (Int × Int)) (key : Int) : List (Int × Int):=shLo ps key ++ shHi ps key
def shUpd (ps : List (Int × Int)) (kind key : Int) : Bool:=(kind == 1 && !(shVal ps key).2) || (kind == 2 && (shVal ps key).2)
def shAns (ps : List (Int × Int)) (kind key : Int) (spans : List (Int × Int)) : BAns :=
 if kind = 4 then answerOf spans ps 0
 else if kind = 3 then { did:=(shVal ps key).2,value:=(shVal ps key).1 }
 else if shUpd ps kind key then { did:=true,value:=if kind = 2 then (shVal ps key).1 else 0 }
 else {}
def shNew (ps : List (Int × Int)) (kind key value : Int) : List (Int × Int) :=
 if shUpd ps kind key then (if kind = 1 then shPut ps key value else shDel ps key) else ps
def wantOf (k lim n e c : Int) (ps : List (Int × Int)) (kind key : Int) (spans : List (Int × Int)) : BAns :=
 if shUpd ps kind key then
  (if spendErr k lim kind n e c = 0 then { shAns ps kind key spans with stamp:=c + 1 } else { err:=spendErr k lim kind n e c })
 else if (shAns ps kind key spans).err = 0 then { shAns ps kind key spans with stamp:=c } else shAns ps kind key spans
def doneOf (k lim n e c : Int) (ps : List (Int × Int)) (kind key : Int) : Bool:=shUpd ps kind key && decide (spendErr k lim kind n e c = 0)
structure Quiets (κ T N E L : Int) (Q : PSt->List (Int × Int)->Int->Int->Int->Prop) : Prop where
 fresh : Q (freshP κ T N E L) [] N (E - 1) 0
 room : ∀ {P ps n e c},Q P ps n e c->P.mem.room.1 = n/\P.mem.room.2 = e/\P.clock = c/\(0<=n/\n<=64)/\(0<=e/\e<=256)/\(0<=c/\c<=2 ^ 41)/\ps.length<=64
 idle : ∀ {P ps n e c},Q P ps n e c->∀ t ∈ P.ts,t.busy = false
 op : ∀ {P ps n e c} {i : Nat} {t : PThread} (kd ky va : Int) (sp : List (Int × Int)),Q P ps n e c->P.ts[i]? = some t->properB kd ky sp = true ->
  ∃ m : Nat,(m : Int) < N + 16/\(∀ j,j < m->(P.setT i { t with busy:=true,work:=newWork kd ky va sp }).how i j = 1)/\(P.setT i { t with busy:=true,work:=newWork kd ky va sp }).how i m = 3 /\
   (((P.setT i { t with busy:=true,work:=newWork kd ky va sp }).iter i m).th i).work.ans = wantOf κ L n e c ps kd ky sp /\
   Q ((P.setT i { t with busy:=true,work:=newWork kd ky va sp }).iter i (m + 1)) (if doneOf κ L n e c ps kd ky then shNew ps kd ky va else ps) (if doneOf κ L n e c ps kd ky then n - spendN κ kd else n) (if doneOf κ L n e c ps kd ky then e - spendE κ kd else e) (if doneOf κ L n e c ps kd ky then c + 1 else c)
 sweep : ∀ {P ps n e c},Q P ps n e c->(∀ j,j < P.ts.length + 2->P.swHow j = 1)/\P.swHow (P.ts.length + 2) = 3/\Q (P.swIter (P.ts.length + 3)) ps (N - ps.length * (1 + κ)) (E - ps.length * (1 + κ) - 1) c
def own00 : Own:=fun _=>⟨0,.store⟩
end
section
theorem least_fold : ∀ (l : List (Int × Int)) (m : Int),l.foldl (fun m p=>if p.1 < m then p.1 else m) m<=m/\∀ p ∈ l,l.foldl (fun m p=>if p.1 < m then p.1 else m) m<=p.1
 | [],m=>⟨Int.le_refl _,by intro p hp; cases hp⟩
 | x :: r,m=>by
  rw [List.foldl_cons];obtain ⟨h1,h2⟩:=least_fold r (if x.1 < m then x.1 else m);have h3 : (if x.1 < m then x.1 else m)<=m/\(if x.1 < m then x.1 else m)<=x.1:=by split <;> omega
  refine ⟨by omega,?_⟩;intro p hp;rcases List.mem_cons.1 hp with rfl | hp
  ·omega
  ·exact h2 p hp
theorem great_fold : ∀ (l : List (Int × Int)) (m b : Int),m<=b->(∀ p ∈ l,p.2<=b)->m<=l.foldl (fun m p=>if p.2 > m then p.2 else m) m/\(∀ p ∈ l,p.2<=l.foldl (fun m p=>if p.2 > m then p.2 else m) m)/\l.foldl (fun m p=>if p.2 > m then p.2 else m) m<=b
 | [],m,b,hm,_=>⟨Int.le_refl _,(by intro p hp; exact nomatch hp),hm⟩
 | x :: r,m,b,hm,hb=>by
  rw [List.foldl_cons];have hx:=hb x (by simp);have h3 : m<=(if x.2 > m then x.2 else m)/\x.2<=(if x.2 > m then x.2 else m)/\(if x.2 > m then x.2 else m)<=b:=by split <;> omega
  obtain ⟨h1,h2,h4⟩:=great_fold r (if x.2 > m then x.2 else m) b h3.2.2 (fun p hp=>hb p (by simp [hp]));refine ⟨by omega,?_,h4⟩;intro p hp;rcases List.mem_cons.1 hp with rfl | hp
  ·omega
  ·exact h2 p hp
theorem hull_lists (spans ps : List (Int × Int)) (lo hi : Int) (h : ∀ p ∈ spans,lo<=p.1/\p.2<=hi) : spanLists spans (ps.filter (fun q=>isIn q.1 lo hi)) = spanLists spans ps:=by
 unfold spanLists;apply List.map_congr_left;intro p hp;rw [List.filter_filter];apply List.filter_congr;intro q _;obtain ⟨h1,h2⟩:=h p hp;unfold inSpan;by_cases hq : isIn q.1 p.1 p.2 = true
 ·have:=isIn_iff.1 hq
  rw [hq,isIn_true (by omega)]; rfl
 ·simp [hq]
theorem spansOk_mem : ∀ {l : List (Int × Int)},spansOkX l = true->∀ p ∈ l,p.2<=1099511627776
 | [],_,p,hp=>by cases hp
 | x :: r,h,p,hp=>by
  simp only [spansOkX,Bool.and_eq_true,isIn_iff] at h;rcases List.mem_cons.1 hp with rfl | hp
  ·have:=h.2.1.2; omega
  ·exact spansOk_mem h.2.2.2 p hp
theorem hull_answer {spans : List (Int × Int)} (hs : spansOkX spans = true) (ps : List (Int × Int)) (c : Int) : answerOf spans (ps.filter (fun q=>isIn q.1 (leastLo spans) (greatestHi spans))) c = answerOf spans ps c/\greatestHi spans<=1099511627776:=by
 obtain ⟨_,h2,h3⟩:=great_fold spans 0 1099511627776 (by omega) (spansOk_mem hs);have h1:=(least_fold spans (2 ^ 40)).2;refine ⟨?_,h3⟩;unfold answerOf;rw [hull_lists spans ps (leastLo spans) (greatestHi spans) (fun p hp=>⟨h1 p hp,h2 p hp⟩)]
end
end Go.Proofs.YtfccelbmacjifabGreat
