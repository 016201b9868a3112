import Derived.Test.YtfccelbmacjifabGreatP0
import Derived.Test.YtfccelbmacjifabGreatP25
import Derived.Test.YtfccelbmacjifabGreatP10
set_option linter.unusedSimpArgs false
set_option maxRecDepth 100000
set_option maxHeartbeats 4000000
namespace Go.Proofs.YtfccelbmacjifabGreat
section
open Go.RowKit
theorem Tryz.infoBoolP : (Tryz.prog.info? 4).map (fun i=>(i.zero,i.size,i.bytes)) = some (some (.bool false),1,1):=by kernel_rfl
theorem Tryz.infoOpP : (Tryz.prog.info? 53).map (fun i=>(i.zero,i.size,i.bytes)) = some (some (.agg #[.int .i64 0,.int .i64 0,.int .i64 0,.slice none 0 0]),4,48):=by kernel_rfl
def blankOp : OpV:=⟨0,0,0,[],.slice none 0 0⟩
theorem rep_succ {α : Type} (a : α) (j : Nat) : List.replicate j a ++ [a] = List.replicate (j + 1) a:=by
 rw [List.replicate_succ']
theorem fit_fresh {κ t n e l : Int} (hκ : κ = 0\/κ = 1) (ht : 1<=t/\t<=8) (hl : 0<=l/\l<=1099511627776) : Fit 0 (freshP κ t n e l):=by
 refine ⟨hκ,⟨by show (0 : Int)<=0; omega,hl.1⟩,hl.2,by simp [freshP]; omega,by simp [freshP,PSweep.zero],?_⟩;intro i u hu
 have:=(List.mem_replicate.1 (List.mem_of_getElem? (show (List.replicate t.toNat PThread.zero)[i]? = some u from hu))).2
 subst this;exact ⟨fun hb=>by simp [PThread.zero] at hb,SmallAns.zero rfl⟩
structure Grown (κ : Int) (w0 w : World) (pb s : Nat) (t n e l : Int) (bv ov fv : Value) (jb jo jf : Nat) : Prop where
 at_ : At w pb [pv s,.int .i64 κ,.int .i64 t,.int .i64 n,.int .i64 e,.int .i64 l,bv,ov,fv,.slice none 0 0,.int .i64 0,.int .i64 0] 42
 b : w.ownsRow 0 4 1 bv jb (boolCells (List.replicate jb false))
 o : w.ownsRow 0 53 4 ov jo ((List.replicate jo blankOp).flatMap OpV.cells)
 f : w.ownsRow 0 3 1 fv jf (intCells (List.replicate jf 0))
 nb : ∀ k,bv.ownBlock = some k->w0.heap.size<=k
 no : ∀ k,ov.ownBlock = some k->w0.heap.size<=k
 nf : ∀ k,fv.ownBlock = some k->w0.heap.size<=k
 np : w0.heap.size<=pb
 fr : Fr (fun _=>False) w0 w
section
variable {κ : Int} {w0 w : World} {pb s : Nat} {t n e l : Int} {bv ov fv : Value} {jb jo jf : Nat}
theorem apartBlk {v u : Value} (h : v.ownBlock = none\/v.ownBlock≠u.ownBlock) : ∀ k,u.ownBlock = some k->¬ v.ownBlock = some k:=by
 intro k hk hb;rcases h with h1 | h1
 ·rw [h1] at hb; cases hb
 ·rw [hb,hk] at h1; exact h1 rfl
theorem Grown.pushB (h : Grown κ w0 w pb s t n e l bv ov fv jb jo jf) {w5 : World} {g cap : Nat} {ob : Obj} (hown : w5.ownsRow 0 4 1 (.slice (some ⟨g,0,none⟩) (jb + 1) cap) (jb + 1) (boolCells (List.replicate jb false) ++ [.bool false])) (hgr : (w.alloc ob).grownBy w5 bv.ownBlock) (hge : bv.ownBlock = some g\/w.heap.size<=g) :
  Grown κ w0 (w5.setCell ⟨pb,6,none⟩ (.slice (some ⟨g,0,none⟩) (jb + 1) cap)) pb s t n e l (.slice (some ⟨g,0,none⟩) (jb + 1) cap) ov fv (jb + 1) (jo) (jf):=by
 have hF : Fr (fun k=>bv.ownBlock = some k) w w5:=Fr.grown ((Fr.refl _ _).alloc ob) hgr (fun k hk=>.inl hk);have hA : At w5 pb _ 42:=hF.at h.at_ (h.at_.ne_row h.b (by decide));have hne:=hA.ne_row hown (by decide);have hr:=ownsRow_setOther hown (a:=⟨pb,6,none⟩) hne (.slice (some ⟨g,0,none⟩) (jb + 1) cap);have hn : ∀ k,(Value.slice (some ⟨g,0,none⟩) (jb + 1) cap).ownBlock = some k->w0.heap.size<=k:=by
  intro k hk;simp [Value.ownBlock] at hk;subst hk;rcases hge with h1 | h1
  ·exact h.nb _ h1
  ·have:=h.fr.size; omega
 refine ⟨hA.set 6 _,?_,ownsRow_setOther (hF.owns h.o (apartBlk (ownsRow_ne h.b h.o (by decide)))) (h.at_.ne_row h.o (by decide)) _,ownsRow_setOther (hF.owns h.f (apartBlk (ownsRow_ne h.b h.f (by decide)))) (h.at_.ne_row h.f (by decide)) _,hn,h.no,h.nf,h.np,Fr.setNew h.np (Fr.transNew h.fr hF (fun k hk=>.inr (h.nb k hk))) 6 _⟩;rw [show boolCells (List.replicate (jb + 1) false) = boolCells (List.replicate jb false) ++ [.bool false] from by rw [<- rep_succ]; simp [boolCells]];exact hr
theorem Grown.pushO (h : Grown κ w0 w pb s t n e l bv ov fv jb jo jf) {w5 : World} {g cap : Nat} {ob : Obj} (hown : w5.ownsRow 0 53 4 (.slice (some ⟨g,0,none⟩) (jo + 1) cap) (jo + 1) ((List.replicate jo blankOp).flatMap OpV.cells ++ [.int .i64 0,.int .i64 0,.int .i64 0,.slice none 0 0])) (hgr : (w.alloc ob).grownBy w5 ov.ownBlock) (hge : ov.ownBlock = some g\/w.heap.size<=g) :
  Grown κ w0 (w5.setCell ⟨pb,7,none⟩ (.slice (some ⟨g,0,none⟩) (jo + 1) cap)) pb s t n e l bv (.slice (some ⟨g,0,none⟩) (jo + 1) cap) fv (jb) (jo + 1) (jf):=by
 have hF : Fr (fun k=>ov.ownBlock = some k) w w5:=Fr.grown ((Fr.refl _ _).alloc ob) hgr (fun k hk=>.inl hk);have hA : At w5 pb _ 42:=hF.at h.at_ (h.at_.ne_row h.o (by decide));have hne:=hA.ne_row hown (by decide);have hr:=ownsRow_setOther hown (a:=⟨pb,7,none⟩) hne (.slice (some ⟨g,0,none⟩) (jo + 1) cap);have hn : ∀ k,(Value.slice (some ⟨g,0,none⟩) (jo + 1) cap).ownBlock = some k->w0.heap.size<=k:=by
  intro k hk;simp [Value.ownBlock] at hk;subst hk;rcases hge with h1 | h1
  ·exact h.no _ h1
  ·have:=h.fr.size; omega
 refine ⟨hA.set 7 _,ownsRow_setOther (hF.owns h.b (apartBlk (ownsRow_ne h.o h.b (by decide)))) (h.at_.ne_row h.b (by decide)) _,?_,ownsRow_setOther (hF.owns h.f (apartBlk (ownsRow_ne h.o h.f (by decide)))) (h.at_.ne_row h.f (by decide)) _,h.nb,hn,h.nf,h.np,Fr.setNew h.np (Fr.transNew h.fr hF (fun k hk=>.inr (h.no k hk))) 7 _⟩;rw [show (List.replicate (jo + 1) blankOp).flatMap OpV.cells = (List.replicate jo blankOp).flatMap OpV.cells ++ [.int .i64 0,.int .i64 0,.int .i64 0,.slice none 0 0] from by rw [<- rep_succ,List.flatMap_append]; rfl];exact hr
theorem Grown.pushF (h : Grown κ w0 w pb s t n e l bv ov fv jb jo jf) {w5 : World} {g cap : Nat} {ob : Obj} (hown : w5.ownsRow 0 3 1 (.slice (some ⟨g,0,none⟩) (jf + 1) cap) (jf + 1) (intCells (List.replicate jf 0) ++ [.int .i64 0])) (hgr : (w.alloc ob).grownBy w5 fv.ownBlock) (hge : fv.ownBlock = some g\/w.heap.size<=g) :
  Grown κ w0 (w5.setCell ⟨pb,8,none⟩ (.slice (some ⟨g,0,none⟩) (jf + 1) cap)) pb s t n e l bv ov (.slice (some ⟨g,0,none⟩) (jf + 1) cap) (jb) (jo) (jf + 1):=by
 have hF : Fr (fun k=>fv.ownBlock = some k) w w5:=Fr.grown ((Fr.refl _ _).alloc ob) hgr (fun k hk=>.inl hk);have hA : At w5 pb _ 42:=hF.at h.at_ (h.at_.ne_row h.f (by decide));have hne:=hA.ne_row hown (by decide);have hr:=ownsRow_setOther hown (a:=⟨pb,8,none⟩) hne (.slice (some ⟨g,0,none⟩) (jf + 1) cap);have hn : ∀ k,(Value.slice (some ⟨g,0,none⟩) (jf + 1) cap).ownBlock = some k->w0.heap.size<=k:=by
  intro k hk;simp [Value.ownBlock] at hk;subst hk;rcases hge with h1 | h1
  ·exact h.nf _ h1
  ·have:=h.fr.size; omega
 refine ⟨hA.set 8 _,ownsRow_setOther (hF.owns h.b (apartBlk (ownsRow_ne h.f h.b (by decide)))) (h.at_.ne_row h.b (by decide)) _,ownsRow_setOther (hF.owns h.o (apartBlk (ownsRow_ne h.f h.o (by decide)))) (h.at_.ne_row h.o (by decide)) _,?_,h.nb,h.no,hn,h.np,Fr.setNew h.np (Fr.transNew h.fr hF (fun k hk=>.inr (h.nf k hk))) 8 _⟩;rw [show intCells (List.replicate (jf + 1) 0) = intCells (List.replicate jf 0) ++ [.int .i64 0] from by rw [<- rep_succ]; simp [intCells]];exact hr
end
section
variable {own : Own} {z : Nat}
structure FreshPl (κ t n e l : Int) (D : PlD) : Prop where
 P : D.P = freshP κ t n e l
 N : D.N = 0
 ok : D.ok
 cfg : D.k = κ/\D.t = t/\D.n = n/\D.e = e/\D.l = l
 deeds : D.deeds = []
 cnt : D.puts = 0/\D.takes = 0
theorem Grown.player {w w0 w' : World} {pb : Nat} {κ t n e l : Int} {bv ov fv : Value} {L : XLay} (hκ : κ = 0\/κ = 1) (ht : 1<=t/\t<=8) (hl : 0<=l/\l<=1099511627776) (hX : XAt w0 L (freshX κ t n e l)) (hL : ∀ b,L.own b->w.heap.size<=b) (hw : w.heap.size<=w0.heap.size) (hf : Fr (fun _=>False) w w0)
  (h : Grown κ w0 w' pb L.s t n e l bv ov fv t.toNat t.toNat t.toNat) : ∃ own' D,PlAt own' z w' pb D/\Ext own own' w/\FreshPl κ t n e l D/\Fr (fun _=>False) w w':=by
 obtain ⟨own1,L',hZ,hE1,es⟩:=ZAt.ofNew (own:=own) (z:=z) (w:=w) hX hL ht.2;obtain ⟨own2,ho2⟩ : ∃ own2 : Own,own2 = fun k=>if k = pb then ⟨z + 1,.store⟩ else if bv.ownBlock = some k then ⟨z + 1,.oth 1⟩ else if ov.ownBlock = some k then ⟨z + 1,.oth 2⟩ else if fv.ownBlock = some k then ⟨z + 1,.oth 3⟩ else own1 k:=⟨_,rfl⟩
 have hE2 : Ext own1 own2 w0:=by
  intro k hk;rw [ho2];simp only;rw [if_neg (fun e=>by have:=h.np; omega),if_neg (fun e=>by have:=h.nb k e; omega),if_neg (fun e=>by have:=h.no k e; omega),if_neg (fun e=>by have:=h.nf k e; omega)]
 have pne : ∀ k v (n : Nat) xs T sz,w'.ownsRow 0 T sz v n xs->T≠42->v.ownBlock = some k->k≠pb:=by
  rintro k v n xs T sz hr hT hk rfl;exact h.at_.ne_row hr (fun e=>hT e.symm) hk
 have o1 : ∀ k,bv.ownBlock = some k->own2 k = ⟨z + 1,.oth 1⟩:=by
  intro k hk; rw [ho2]; simp only;rw [if_neg (pne k _ _ _ _ _ h.b (by decide) hk),if_pos hk]
 have o2 : ∀ k,ov.ownBlock = some k->own2 k = ⟨z + 1,.oth 2⟩:=by
  intro k hk; rw [ho2]; simp only;rw [if_neg (pne k _ _ _ _ _ h.o (by decide) hk),if_neg (apartBlk (ownsRow_ne h.b h.o (by decide)) k hk),if_pos hk]
 have o3 : ∀ k,fv.ownBlock = some k->own2 k = ⟨z + 1,.oth 3⟩:=by
  intro k hk; rw [ho2]; simp only;rw [if_neg (pne k _ _ _ _ _ h.f (by decide) hk),if_neg (apartBlk (ownsRow_ne h.b h.f (by decide)) k hk),if_neg (apartBlk (ownsRow_ne h.o h.f (by decide)) k hk),if_pos hk]
 have hop : own2 pb = ⟨z + 1,.store⟩:=by rw [ho2]; simp
 have hlen : (freshP κ t n e l).ts.length = t.toNat:=by simp [freshP]
 refine ⟨own2,{ L:=L',P:=freshP κ t n e l,N:=0,k:=κ,t:=t,n:=n,e:=e,l:=l,bv:=bv,ov:=ov,fv:=fv,dv:=.slice none 0 0,bs:=List.replicate t.toNat false,ops:=List.replicate t.toNat blankOp,frm:=List.replicate t.toNat 0,deeds:=[],puts:=0,takes:=0 },⟨?_,hop,hZ.fr h.fr hE2 (fun _ _ h=>h),fit_fresh hκ ht hl,by rw [hlen]; show t = _; omega,⟨by rw [hlen]; exact h.b,o1⟩,by rw [hlen]; simp,⟨by rw [hlen]; exact h.o,o2⟩,by rw [hlen]; simp,⟨by rw [hlen]; exact h.f,o3⟩,by rw [hlen]; simp,Row.nil _ _ _ _ _ _,?_,by simp⟩,?_,⟨rfl,rfl,?_,⟨rfl,rfl,rfl,rfl,rfl⟩,rfl,⟨rfl,rfl⟩⟩,hf.trans h.fr⟩
 ·have:=h.at_
  simp only [PlD.cells,es];exact this
 ·intro o ho
  have:=(List.mem_replicate.1 ho).2
  subst this;exact Row.nil _ _ _ _ _ _
 ·intro k hk; rw [hE2 k (by omega)]; exact hE1 k hk
 ·show List.replicate t.toNat false = (List.replicate t.toNat PThread.zero).map (·.busy);rw [List.map_replicate]; rfl
theorem player_calls (κ t n e l : Int) (w : World) (own : Own) (z : Nat) (hok : okCfg κ t n e l = true) :
  Calls Tryz.prog 16 #[cfg κ t n e l] w fun r w'=>∃ pb,r = .returned (pv pb)/\∃ own' D,PlAt own' z w' pb D/\Ext own own' w/\FreshPl κ t n e l D/\Fr (fun _=>False) w w':=by
 obtain ⟨hκ,ht,hn,he,hl⟩ : (0<=κ/\κ<=1)/\(1<=t/\t<=8)/\(0<=n/\n<=64)/\(1<=e/\e<=256)/\(0<=l/\l<=1099511627776):=by
  simp only [okCfg,Bool.and_eq_true,isIn_iff] at hok;omega
 obtain ⟨iB,hiB,hzB,hsB,hbB⟩:=info_parts Tryz.infoBoolP;obtain ⟨iO,hiO,hzO,hsO,hbO⟩:=info_parts Tryz.infoOpP;obtain ⟨iI,hiI,hzI,hsI,hbI⟩:=info_parts Tryz.infoIntZ;have HOK : Hid _:=hok;have HK:=(mkH (κ = 0\/κ = 1) <|(show κ = 0\/κ = 1 by omega));have HLm:=(mkH (0<=l/\l<=1099511627776) <|hl);obtain ⟨ht1,ht2⟩:=ht;clear hok hn he hl hκ;unfold cfg
 go_enter Tryz.func16,Tryz.ntmps16
 go_wp2_with fail;refine (XNew_yes κ t n e l _ HOK.out).mono ?_;rintro r w1 ⟨L,rfl,hX,hF1,hL⟩;have hC : At w1 w.heap.size [.int .i64 κ,.int .i64 t,.int .i64 n,.int .i64 e,.int .i64 l] 23:=hF1.at (At.new w _ _) (fun h=>h);have hcc:=hC.cell;have HC:=(mkH (At w1 w.heap.size _ 23) <|hC);have HF1:=(mkH (Fr (fun _=>False) w w1) <|((Fr.refl _ _).alloc _).trans hF1);have HX:=(mkH (XAt _ _ _) <|hX);simp only [World.size_alloc] at hL;have HL:=(mkH (∀ b,L.own b->w.heap.size<=b) <|fun b hb=>by have:=hL b hb; omega);clear hF1 hC hX hL;go_wp2_with fail;have HG0 : Hid (Grown κ w1 (w1.alloc (.cells #[.pointer (some ⟨L.s,0,none⟩),.int .i64 κ,.int .i64 t,.int .i64 n,.int .i64 e,.int .i64 l,.slice none 0 0,.slice none 0 0,.slice none 0 0,.slice none 0 0,.int .i64 0,.int .i64 0] 42)) w1.heap.size L.s t n e l (.slice none 0 0) (.slice none 0 0) (.slice none 0 0) 0 0 0) :=
  ⟨At.new w1 _ _,⟨by simp [boolCells],.inl ⟨rfl,rfl⟩⟩,⟨by simp,.inl ⟨rfl,rfl⟩⟩,⟨by simp [intCells],.inl ⟨rfl,rfl⟩⟩,by intro k hk; simp [Value.ownBlock] at hk,by intro k hk; simp [Value.ownBlock] at hk,by intro k hk; simp [Value.ownBlock] at hk,Nat.le_refl _,(Fr.refl _ _).alloc _⟩
 generalize hpb : w1.heap.size = pb at HG0 ⊢;clear hcc
 go_loopw [6] (fun i wr=>∃ j : Nat,(j : Int)<=t/\i = .int .i64 j/\∃ bv ov fv,Hid (Grown κ w1 wr pb L.s t n e l bv ov fv j j j)) (fun i _=>(t - intOf i).toNat)
 case atStart=>exact ⟨0,by omega,rfl,_,_,_,HG0⟩
 case round =>
  clear HG0;obtain ⟨j,hj,rfl,bv,ov,fv,HG⟩:=hrel;have hcc:=(HG.out.fr.at HC.out (fun h=>h)).cell;have ha:=HG.out.at_.cell;have hz:=HG.out.at_.frozen;have hpl:=HG.out.at_.lt;simp only [pv] at ha;by_cases hlt : (j : Int) < t
  ·have hne : w.heap.size≠pb:=(HG.out.fr.at HC.out (fun h=>h)).ne HG.out.at_ (by decide);obtain ⟨ba,bc,hbv⟩:=ownsShape HG.out.b;obtain ⟨oa,oc,hov⟩:=ownsShape HG.out.o;obtain ⟨fa,fc,hfv⟩:=ownsShape HG.out.f;subst hbv hov hfv;go_wp2_with (at_builtin; refine wpList_push _ rfl _ _ 37 rfl 0 4 iB _ 1 1 Tryz.underlying37 hiB hzB hsB hbB rfl (by decide) _ _ _ rfl (ownsRow_alloc HG.out.b _) wr.heap.size [.bool false] rfl rfl 4 (At.newAt (by simp) _ _) (by simp [Value.oneCell']) (by unfold maxLen; omega) (by omega) (by simp) ?_);intro g1 k1 w2 hown hgr hge;have hA2 : At w2 pb _ 42:=(Fr.grown ((Fr.refl (fun k=>(Value.slice ba j bc).ownBlock = some k) wr).alloc _) hgr (fun k hk=>.inl hk)).at HG.out.at_ (HG.out.at_.ne_row HG.out.b (by decide));have HG1:=(mkH (Grown κ w1 _ pb L.s t n e l _ _ _ (j + 1) j j) <|HG.out.pushB hown hgr (by rcases hge with h | h; exact .inl h; exact .inr (by first | omega | (simp at h; omega))));have ha2:=hA2.cell;have hz2:=hA2.frozen;have hl2:=hA2.lt;simp only [pv] at ha2;clear hown hgr hge hA2 ha hz hpl HG hcc;obtain ⟨w3,hw3⟩ : ∃ w3,w3 = w2.setCell ⟨pb,6,none⟩ (.slice (some ⟨g1,0,none⟩) (j + 1) k1):=⟨_,rfl⟩;rw [<- hw3] at HG1;have ha3 : ∀ o,(w2.setCell ⟨pb,6,none⟩ (.slice (some ⟨g1,0,none⟩) (j + 1) k1)).cell? ⟨pb,o,none⟩ = [Value.pointer (some ⟨L.s,0,none⟩),.int .i64 κ,.int .i64 t,.int .i64 n,.int .i64 e,.int .i64 l,.slice (some ⟨g1,0,none⟩) (j + 1) k1,.slice oa j oc,.slice fa j fc,.slice none 0 0,.int .i64 0,.int .i64 0][o]?:=by rw [<- hw3]; exact HG1.out.at_.cell
   have hR1 : (w2.setCell ⟨pb,6,none⟩ (.slice (some ⟨g1,0,none⟩) (j + 1) k1)).ownsRow 0 53 4 (.slice oa j oc) j ((List.replicate j blankOp).flatMap OpV.cells):=by rw [<- hw3]; exact HG1.out.o
   have HR1:=(mkH (World.ownsRow _ 0 _ _ _ _ _) <|hR1);clear hR1;go_wp2_with (at_builtin; refine wpList_push _ rfl _ _ 38 rfl 0 53 iO _ 4 48 Tryz.underlying38 hiO hzO hsO hbO rfl (by decide) _ _ _ rfl (ownsRow_alloc HR1.out _) w2.heap.size [.int .i64 0,.int .i64 0,.int .i64 0,.slice none 0 0] rfl rfl 53 (At.newAt (by simp) _ _) (by simp [Value.oneCell']) (by unfold maxLen; omega) (by omega) (by simp) ?_);intro g2 k2 w4 hown hgr hge;rw [<- hw3] at hgr;have hA4 : At w4 pb _ 42:=(Fr.grown ((Fr.refl (fun k=>(Value.slice oa j oc).ownBlock = some k) w3).alloc _) hgr (fun k hk=>.inl hk)).at HG1.out.at_ (HG1.out.at_.ne_row HG1.out.o (by decide));have HG2:=(mkH (Grown κ w1 _ pb L.s t n e l _ _ _ (j + 1) (j + 1) j) <|HG1.out.pushO hown hgr (by rcases hge with h | h; exact .inl h; exact .inr (by rw [hw3]; first | omega | (simp at h ⊢; omega))));have ha4:=hA4.cell;have hz4:=hA4.frozen;have hl4:=hA4.lt;simp only [pv] at ha4;clear hown hgr hge hA4 ha2 hz2 hl2 HG1 ha3 hw3 HR1;obtain ⟨w5,hw5⟩ : ∃ w5,w5 = w4.setCell ⟨pb,7,none⟩ (.slice (some ⟨g2,0,none⟩) (j + 1) k2):=⟨_,rfl⟩;rw [<- hw5] at HG2;have ha5 : ∀ o,(w4.setCell ⟨pb,7,none⟩ (.slice (some ⟨g2,0,none⟩) (j + 1) k2)).cell? ⟨pb,o,none⟩ = [Value.pointer (some ⟨L.s,0,none⟩),.int .i64 κ,.int .i64 t,.int .i64 n,.int .i64 e,.int .i64 l,.slice (some ⟨g1,0,none⟩) (j + 1) k1,.slice (some ⟨g2,0,none⟩) (j + 1) k2,.slice fa j fc,.slice none 0 0,.int .i64 0,.int .i64 0][o]?:=by rw [<- hw5]; exact HG2.out.at_.cell
   have HR2:=(mkH ((w4.setCell ⟨pb,7,none⟩ (.slice (some ⟨g2,0,none⟩) (j + 1) k2)).ownsRow 0 3 1 (.slice fa j fc) j (intCells (List.replicate j 0))) <|by rw [<- hw5]; exact HG2.out.f);go_wp2_with (at_builtin; refine wpList_push _ rfl _ _ 39 rfl 0 3 iI _ 1 8 Tryz.underlying39 hiI hzI hsI hbI rfl (by decide) _ _ _ rfl (ownsRow_alloc HR2.out _) w4.heap.size [.int .i64 0] rfl rfl 3 (At.newAt (by simp) _ _) (by simp [Value.oneCell']) (by unfold maxLen; omega) (by omega) (by simp) ?_);intro g3 k3 w6 hown hgr hge;rw [<- hw5] at hgr;have hA6 : At w6 pb _ 42:=(Fr.grown ((Fr.refl (fun k=>(Value.slice fa j fc).ownBlock = some k) w5).alloc _) hgr (fun k hk=>.inl hk)).at HG2.out.at_ (HG2.out.at_.ne_row HG2.out.f (by decide));have HG3:=(mkH (Grown κ w1 _ pb L.s t n e l _ _ _ (j + 1) (j + 1) (j + 1)) <|HG2.out.pushF hown hgr (by rcases hge with h | h; exact .inl h; exact .inr (by rw [hw5]; first | omega | (simp at h ⊢; omega))));have ha6:=hA6.cell;have hz6:=hA6.frozen;have hl6:=hA6.lt;simp only [pv] at ha6;clear hown hgr hge hA6 ha4 hz4 hl4 HG2 ha5 hw5 HR2;go_wp2
   go_roundw
   case rel=>exact ⟨j + 1,by omega,by go_num,_,_,_,HG3⟩
   case measure=>simp [intOf]; omega
  ·have hjt : j = t.toNat:=by omega
   have HGt:=(mkH (Grown κ w1 wr pb L.s t n e l bv ov fv t.toNat t.toNat t.toNat) <|by rw [<- hjt]; exact HG.out);clear hjt;go_wp2;go_ret;obtain ⟨own',D,h1,h2,h3,h4⟩:=HGt.out.player (own:=own) (z:=z) HK.out ⟨ht1,ht2⟩ HLm.out HX.out HL.out HF1.out.size HF1.out;exact ⟨pb,rfl,own',D,h1,h2,h3,h4⟩
end
end
section
open Go.RowKit
def PSt.iter (P : PSt) (i : Nat) : Nat->PSt
 | 0=>P
 | j + 1=>((P.iter i j).step i ((P.iter i j).th i)).1
def PSt.how (P : PSt) (i j : Nat) : Int:=((P.iter i j).step i ((P.iter i j).th i)).2
def PSt.swIter (P : PSt) : Nat->PSt
 | 0=>P
 | j + 1=>(P.swIter j).doSweep.1
structure Iter (D : PlD) (i j : Nat) (D' : PlD) : Prop where
 P : D'.P = D.P.iter i j
 N : D'.N = D.N + j
 cfg : D'.k = D.k/\D'.t = D.t/\D'.n = D.n/\D'.e = D.e/\D'.l = D.l
 same : D'.ops = D.ops/\D'.frm = D.frm/\D'.puts = D.puts/\D'.takes = D.takes/\D'.bs = D.bs/\D'.deeds = D.deeds
 busy : ∃ t,D'.P.ts[i]? = some t/\t.busy = true
structure Soloed (D : PlD) (i m : Nat) (D' : PlD) : Prop where
 P : D'.P = D.P.iter i (m + 1)
 N : D'.N = D.N + m + 1
 cfg : D'.k = D.k/\D'.t = D.t/\D'.n = D.n/\D'.e = D.e/\D'.l = D.l
 same : D'.ops = D.ops/\D'.frm = D.frm/\D'.puts = D.puts/\D'.takes = D.takes
 bs : D'.bs = D.bs.set i false
 deeds : ∃ av o f,D.ops[i]? = some o/\D.frm[i]? = some f/\D'.deeds = D.deeds ++ [⟨o,((D.P.iter i m).th i).work.ans,av,f⟩]
section
variable {own : Own} {z : Nat} {w w' : World} {pb : Nat} {D D1 : PlD} {i j : Nat} {t : PThread}
theorem th_of {P : PSt} (h : P.ts[i]? = some t) : P.th i = t:=by simp [PSt.th,h]
theorem Iter.next (h : Iter D i j D1) (hf : Fit D1.N D1.P) {D2 : PlD} (hs : Stepped D1 i (D1.P.th i) D2) (h1 : D.P.how i j = 1) : Iter D i (j + 1) D2:=by
 obtain ⟨t,ht,hb⟩:=h.busy;have hth:=th_of ht;have hP : D2.P = D.P.iter i (j + 1):=by rw [hs.P,PSt.iter,h.P]
 have h2 : (D1.P.step i (D1.P.th i)).2 = 1:=by rw [h.P]; exact h1
 refine ⟨hP,by rw [hs.N,h.N]; omega,?_,⟨hs.ops.trans h.same.1,hs.frm.trans h.same.2.1,hs.cnt.1.trans h.same.2.2.1,hs.cnt.2.trans h.same.2.2.2.1,?_,?_⟩,?_⟩
 ·obtain ⟨a1,a2,a3,a4,a5⟩:=hs.cfg;obtain ⟨b1,b2,b3,b4,b5⟩:=h.cfg;exact ⟨a1.trans b1,a2.trans b2,a3.trans b3,a4.trans b4,a5.trans b5⟩
 ·rw [hs.bs,if_neg (by omega)]; exact h.same.2.2.2.2.1
 ·rw [hs.deeds.1 (by omega)]; exact h.same.2.2.2.2.2
 ·rw [hth] at h2 hs;obtain ⟨M,c,t',e,_,_,_,hb',_⟩:=(hf.turn ht hb).to;refine ⟨t',?_,?_⟩
  ·rw [hs.P,e]
   have:=(List.getElem?_eq_some_iff.1 ht).1
   simp [this]
  ·rw [hb',if_neg (by omega)]
theorem Psolo_calls (h : PlAt own z w pb D) (hn : 0<=D.n/\D.n<=64) (hb : D.bs[i]? = some true) (ht : D.P.ts[i]? = some t) (htb : t.busy = true) (hN : D.N<=2 ^ 38) (hdl : D.deeds.length<=2 ^ 38) (m : Nat) (hm : (m : Int) < D.n + 16) (hmv : ∀ j,j < m->D.P.how i j = 1) (hend : D.P.how i m = 3) :
  Calls Tryz.prog 30 #[pv pb,.int .i64 i] w fun r w'=>r = .returned (.bool true)/\PlGoes own z w pb w' (Soloed D i m):=by
 obtain ⟨hn1,hn2⟩:=hn;have H:=(mkH (PlAt own z w pb D) <|h);have HI:=(mkH (Iter D i 0 D) <|⟨rfl,rfl,⟨rfl,rfl,rfl,rfl,rfl⟩,⟨rfl,rfl,rfl,rfl,rfl,rfl⟩,t,ht,htb⟩);have HB:=(mkH (D.bs[i]? = some true) <|hb);have HM:=(mkH (∀ j,j < m->D.P.how i j = 1) <|hmv);have HE:=(mkH (D.P.how i m = 3) <|hend);clear h ht htb hb hmv hend;unfold pv
 go_enter Tryz.func30,Tryz.ntmps30
 go_wp2
 go_loopw [5] (fun v wr=>∃ j : Nat,j<=m/\v = .int .i64 j/\Hid (PlGoes own z w pb wr (Iter D i j))) (fun v _=>m + 1 - (intOf v).toNat)
 case atStart=>exact ⟨0,by omega,rfl,own,D,H.out,Ext.refl _ _,Fr.refl _ _,HI.out⟩
 case round =>
  clear H;obtain ⟨j,hj,rfl,HG⟩:=hrel;obtain ⟨own1,D1,hP,hE,hF,hI⟩:=HG.out;have HP:=(mkH (PlAt own1 z wr pb D1) <|hP);have HX:=(mkH (Ext own own1 w/\FrP own z w wr) <|⟨hE,hF⟩);have HIt:=(mkH (Iter D i j D1) <|hI);have ha:=hP.at_.cell;simp only [PlD.cells,hI.cfg.2.2.1,pv] at ha;clear hP hE hF hI HG;obtain ⟨t1,ht1,hb1⟩:=HIt.out.busy;have HT:=(mkH (D1.P.ts[i]? = some t1/\t1.busy = true/\D1.P.th i = t1) <|⟨ht1,hb1,th_of ht1⟩);have HBs:=(mkH (D1.bs[i]? = some true) <|by show _ = _; rw [HIt.out.same.2.2.2.2.1]; exact HB.out);have HD:=(mkH (D1.N < 2 ^ 39/\D1.deeds.length<=2 ^ 38) <|⟨by rw [HIt.out.N]; omega,by rw [HIt.out.same.2.2.2.2.2]; exact hdl⟩);clear ht1 hb1;by_cases hlt : j < m
  ·have h1:=HM.out j hlt;have HH:=(mkH ((D1.P.step i t1).2 = 1) <|by show _ = _; rw [<- HT.out.2.2,HIt.out.P]; exact h1);go_wp2_with fail;refine (Psteps_on HP.out HBs.out HT.out.1 HT.out.2.1 HD.out.1 (by rw [HH.out]; decide)).mono ?_;rw [HH.out];rintro r w2 ⟨rfl,own2,D2,hP2,hE2,hF2,hS2⟩;have HG2:=(mkH (PlGoes own z w pb w2 (Iter D i (j + 1))) <|PlGoes.trans HX.out.1 HX.out.2 ⟨own2,D2,hP2,hE2,hF2,HIt.out.next HP.out.fit (by rw [HT.out.2.2]; exact hS2) h1⟩);clear hP2 hE2 hF2 hS2 h1;go_wp2
   go_roundw
   case rel=>exact ⟨j + 1,by omega,by go_num,HG2⟩
   case measure=>simp [intOf]; omega
  ·have hjm : Hid (j = m):=by show j = m; omega
   have HH:=(mkH ((D1.P.step i t1).2 = 3) <|by show _ = _; rw [<- HT.out.2.2,HIt.out.P,hjm.out]; exact HE.out);go_wp2_with fail;refine (Psteps_end HP.out HBs.out HT.out.1 HT.out.2.1 HD.out.1 HD.out.2 HH.out).mono ?_;rintro r w2 ⟨rfl,own2,D2,hP2,hE2,hF2,hS2⟩;have HG2:=(mkH (PlGoes own z w pb w2 (Soloed D i m)) <|PlGoes.trans HX.out.1 HX.out.2 ⟨own2,D2,hP2,hE2,hF2,by
    have hI:=HIt.out;rw [hjm.out] at hI;obtain ⟨av,o,f,q1,q2,q3⟩:=hS2.deeds.2 HH.out;refine ⟨?_,by rw [hS2.N,hI.N],?_,⟨hS2.ops.trans hI.same.1,hS2.frm.trans hI.same.2.1,hS2.cnt.1.trans hI.same.2.2.1,hS2.cnt.2.trans hI.same.2.2.2.1⟩,?_,?_⟩
    ·rw [hS2.P,PSt.iter,<- hI.P,HT.out.2.2]
    ·obtain ⟨a1,a2,a3,a4,a5⟩:=hS2.cfg;obtain ⟨b1,b2,b3,b4,b5⟩:=hI.cfg;exact ⟨a1.trans b1,a2.trans b2,a3.trans b3,a4.trans b4,a5.trans b5⟩
    ·rw [hS2.bs,if_pos HH.out,hI.same.2.2.2.2.1]
    ·refine ⟨av,o,f,by rw [<- hI.same.1]; exact q1,by rw [<- hI.same.2.1]; exact q2,?_⟩;rw [q3,hI.same.2.2.2.2.2,<- hI.P,HT.out.2.2]⟩)
   clear hP2 hE2 hF2 hS2;go_wp2;go_ret;exact ⟨rfl,HG2.out⟩
end
end
section
open Go.RowKit
def PSt.swHow (P : PSt) (j : Nat) : Int:=(P.swIter j).doSweep.2
def SwN (D : PlD) (j : Nat) (D' : PlD) : Prop:=∃ L',L'.s = D.L.s/\D' = { D with L:=L',P:=D.P.swIter j }
section
variable {own : Own} {z : Nat} {w w' : World} {pb : Nat} {D D1 : PlD} {i j : Nat}
theorem sweep_ts (P : PSt) : P.doSweep.1.ts = P.ts:=by
 unfold PSt.doSweep;simp only;split
 ·rfl
 ·split
  ·split <;> rfl
  ·split <;> rfl
theorem swIter_ts (P : PSt) : ∀ j,(P.swIter j).ts = P.ts
 | 0=>rfl
 | j + 1=>by rw [PSt.swIter,sweep_ts,swIter_ts P j]
theorem Pswept_calls (h : PlAt own z w pb D) (hmv : ∀ j,j < D.P.ts.length + 2->D.P.swHow j = 1) (hend : D.P.swHow (D.P.ts.length + 2) = 3) :
  Calls Tryz.prog 24 #[pv pb] w fun r w'=>r = .returned (.bool true)/\PlGoes own z w pb w' (SwN D (D.P.ts.length + 3)):=by
 have hT : (D.t : Int)<=64/\0<=D.t:=by have:=h.thr; have:=h.fit.thr; omega
 obtain ⟨T,hTe⟩ : ∃ T,Hid (T = D.P.ts.length):=⟨_,rfl⟩;have hTt : Hid (D.t = T):=by show D.t = T; rw [hTe.out]; exact h.thr
 have hTb : T<=64:=by have:=hTt.out; omega
 have H:=(mkH (PlAt own z w pb D) <|h);have HM:=(mkH (∀ j,j < T + 2->D.P.swHow j = 1) <|by rw [hTe.out]; exact hmv);have HE:=(mkH (D.P.swHow (T + 2) = 3) <|by rw [hTe.out]; exact hend);have HQ : ∀ w',Hid (PlGoes own z w pb w' (SwN D (T + 3)))->PlGoes own z w pb w' (SwN D (D.P.ts.length + 3)):=by
  intro w' hq; rw [<- hTe.out]; exact hq.out
 have HS:=(mkH (∀ j (own1 : Own) (w1 : World) (D1 : PlD),PlAt own1 z w1 pb D1->Ext own own1 w->FrP own z w w1->SwN D j D1->Calls Tryz.prog 42 #[pv D1.L.s] w1 fun r w2=>r = .returned (.int .i64 (D.P.swHow j))/\PlGoes own z w pb w2 (SwN D (j + 1))) <|by
  intro j own1 w1 D1 h1 hE hF hS;obtain ⟨L1,e1,rfl⟩:=hS;refine (ZSweep_fit h1.st h1.fit).mono ?_;rintro r w2 ⟨rfl,hG⟩;have hf:=(h1.fit.sweep h1.st.mem.nsmall).1;obtain ⟨own2,L2,hP2,hE2,hF2,e2⟩:=h1.store hG hf (by rw [sweep_ts]);exact ⟨rfl,PlGoes.trans hE hF ⟨own2,_,hP2,hE2,hF2,L2,e2.trans e1,rfl⟩⟩)
 clear h hmv hend hT hTe;unfold pv at HS ⊢
 go_enter Tryz.func24,Tryz.ntmps24
 go_wp2
 go_loopw [3] (fun v wr=>∃ j : Nat,j<=T + 2/\v = .int .i64 j/\Hid (PlGoes own z w pb wr (SwN D j))) (fun v _=>T + 3 - (intOf v).toNat)
 case atStart=>exact ⟨0,by omega,rfl,own,D,H.out,Ext.refl _ _,Fr.refl _ _,D.L,rfl,rfl⟩
 case round =>
  clear H;obtain ⟨j,hj,rfl,HG⟩:=hrel;obtain ⟨own1,D1,hP,hE,hF,hI⟩:=HG.out;have ha:=hP.at_.cell;have HC:=(mkH (PlAt own1 z wr pb D1/\Ext own own1 w/\FrP own z w wr/\SwN D j D1) <|⟨hP,hE,hF,hI⟩);have ht : D1.t = T:=by obtain ⟨L1,_,rfl⟩:=hI; exact hTt.out
  simp only [PlD.cells,ht,pv] at ha;clear hP hE hF hI HG ht;by_cases hlt : j < T + 2
  ·have h1:=HM.out j hlt;go_wp2_with fail;refine (HS.out j own1 wr D1 HC.out.1 HC.out.2.1 HC.out.2.2.1 HC.out.2.2.2).mono ?_;rw [h1];rintro r w2 ⟨rfl,hG2⟩;have HG2:=(mkH (PlGoes own z w pb w2 (SwN D (j + 1))) <|hG2);clear hG2 h1;go_wp2
   go_roundw
   case rel=>exact ⟨j + 1,by omega,by go_num,HG2⟩
   case measure=>simp [intOf]; omega
  ·have hjm : Hid (j = T + 2):=by show j = T + 2; omega
   have h1 : D.P.swHow j = 3:=by rw [hjm.out]; exact HE.out
   go_wp2_with fail;refine (HS.out j own1 wr D1 HC.out.1 HC.out.2.1 HC.out.2.2.1 HC.out.2.2.2).mono ?_;rw [h1];rintro r w2 ⟨rfl,hG2⟩;have HG2:=(mkH (PlGoes own z w pb w2 (SwN D (T + 3))) <|by rw [<- show j + 1 = T + 3 by rw [hjm.out]]; exact hG2);clear hG2 h1;go_wp2;go_ret;exact ⟨rfl,HQ _ HG2⟩
end
end
section
def spendN (k kind : Int) : Int:=if kind = 1 then 1 + k else 0
def spendE (k kind : Int) : Int:=if kind = 1 then 2 + k else 1
def spendErr (k lim kind n e c : Int) : Int:=if n < spendN k kind\/e < spendE k kind then 7 else if c = lim then 8 else 0
def shVal (ps : List (Int × Int)) (key : Int) : Int × Bool:=match ps.find? (fun p=>p.1 == key) with
 | some p=>(p.2,true)
 | none=>(0,false)
def shSide (key : Int) (below : Bool) (p : Int × Int) : Bool:=if below then decide (p.1 < key) else decide (key < p.1)
theorem shVal_hit {ps : List (Int × Int)} {key : Int} {j : Nat} {x : Int × Int} (h : ∀ p ∈ ps.take j,p.1≠key) (hx : ps[j]? = some x) (hk : x.1 = key) : shVal ps key = (x.2,true):=by
 have hj:=(List.getElem?_eq_some_iff.1 hx).1;have he : ps = ps.take j ++ x :: ps.drop (j + 1):=by
  rw [<- (List.getElem?_eq_some_iff.1 hx).2,List.getElem_cons_drop,List.take_append_drop]
 unfold shVal;rw [he,List.find?_append,List.find?_eq_none.2 (fun p hp=>by simpa using h p hp)];simp [hk]
theorem shVal_miss {ps : List (Int × Int)} {key : Int} (h : ∀ p ∈ ps,p.1≠key) : shVal ps key = (0,false):=by
 unfold shVal;rw [List.find?_eq_none.2 (fun p hp=>by simpa using h p hp)]
def shLo (ps : List (Int × Int)) (key : Int) : List (Int × Int):=ps.filter (shSide key true)
def shHi (ps : List (Int × Int)) (key : Int) : List (Int × Int):=ps.filter (shSide key false)
def shPut (ps : List (Int × Int)) (key value : Int) : List (Int × Int):=shLo ps key ++ [(key,value)] ++ shHi ps key
def shDel (ps : List (Int × Int)) (key : Int) : List (Int × Int):=shLo ps key ++ shHi ps key
def shUpd (ps : List (Int × Int)) (kind key : Int) : Bool:=(kind == 1 && !(shVal ps key).2) || (kind == 2 && (shVal ps key).2)
def shAns (ps : List (Int × Int)) (kind key : Int) (spans : List (Int × Int)) : BAns :=
 if kind = 4 then answerOf spans ps 0
 else if kind = 3 then { did:=(shVal ps key).2,value:=(shVal ps key).1 }
 else if shUpd ps kind key then { did:=true,value:=if kind = 2 then (shVal ps key).1 else 0 }
 else {}
def shNew (ps : List (Int × Int)) (kind key value : Int) : List (Int × Int) :=
 if shUpd ps kind key then (if kind = 1 then shPut ps key value else shDel ps key) else ps
def wantOf (k lim n e c : Int) (ps : List (Int × Int)) (kind key : Int) (spans : List (Int × Int)) : BAns :=
 if shUpd ps kind key then
  (if spendErr k lim kind n e c = 0 then { shAns ps kind key spans with stamp:=c + 1 } else { err:=spendErr k lim kind n e c })
 else if (shAns ps kind key spans).err = 0 then { shAns ps kind key spans with stamp:=c } else shAns ps kind key spans
def doneOf (k lim n e c : Int) (ps : List (Int × Int)) (kind key : Int) : Bool:=shUpd ps kind key && decide (spendErr k lim kind n e c = 0)
structure Quiets (κ T N E L : Int) (Q : PSt->List (Int × Int)->Int->Int->Int->Prop) : Prop where
 fresh : Q (freshP κ T N E L) [] N (E - 1) 0
 room : ∀ {P ps n e c},Q P ps n e c->P.mem.room.1 = n/\P.mem.room.2 = e/\P.clock = c/\(0<=n/\n<=64)/\(0<=e/\e<=256)/\(0<=c/\c<=2 ^ 41)/\ps.length<=64
 idle : ∀ {P ps n e c},Q P ps n e c->∀ t ∈ P.ts,t.busy = false
 op : ∀ {P ps n e c} {i : Nat} {t : PThread} (kd ky va : Int) (sp : List (Int × Int)),Q P ps n e c->P.ts[i]? = some t->properB kd ky sp = true ->
  ∃ m : Nat,(m : Int) < N + 16/\(∀ j,j < m->(P.setT i { t with busy:=true,work:=newWork kd ky va sp }).how i j = 1)/\(P.setT i { t with busy:=true,work:=newWork kd ky va sp }).how i m = 3 /\
   (((P.setT i { t with busy:=true,work:=newWork kd ky va sp }).iter i m).th i).work.ans = wantOf κ L n e c ps kd ky sp /\
   Q ((P.setT i { t with busy:=true,work:=newWork kd ky va sp }).iter i (m + 1)) (if doneOf κ L n e c ps kd ky then shNew ps kd ky va else ps) (if doneOf κ L n e c ps kd ky then n - spendN κ kd else n) (if doneOf κ L n e c ps kd ky then e - spendE κ kd else e) (if doneOf κ L n e c ps kd ky then c + 1 else c)
 sweep : ∀ {P ps n e c},Q P ps n e c->(∀ j,j < P.ts.length + 2->P.swHow j = 1)/\P.swHow (P.ts.length + 2) = 3/\Q (P.swIter (P.ts.length + 3)) ps (N - ps.length * (1 + κ)) (E - ps.length * (1 + κ) - 1) c
def own00 : Own:=fun _=>⟨0,.store⟩
end
section
theorem least_fold : ∀ (l : List (Int × Int)) (m : Int),l.foldl (fun m p=>if p.1 < m then p.1 else m) m<=m/\∀ p ∈ l,l.foldl (fun m p=>if p.1 < m then p.1 else m) m<=p.1
 | [],m=>⟨Int.le_refl _,by intro p hp; cases hp⟩
 | x :: r,m=>by
  rw [List.foldl_cons];obtain ⟨h1,h2⟩:=least_fold r (if x.1 < m then x.1 else m);have h3 : (if x.1 < m then x.1 else m)<=m/\(if x.1 < m then x.1 else m)<=x.1:=by split <;> omega
  refine ⟨by omega,?_⟩;intro p hp;rcases List.mem_cons.1 hp with rfl | hp
  ·omega
  ·exact h2 p hp
theorem great_fold : ∀ (l : List (Int × Int)) (m b : Int),m<=b->(∀ p ∈ l,p.2<=b)->m<=l.foldl (fun m p=>if p.2 > m then p.2 else m) m/\(∀ p ∈ l,p.2<=l.foldl (fun m p=>if p.2 > m then p.2 else m) m)/\l.foldl (fun m p=>if p.2 > m then p.2 else m) m<=b
 | [],m,b,hm,_=>⟨Int.le_refl _,(by intro p hp; exact nomatch hp),hm⟩
 | x :: r,m,b,hm,hb=>by
  rw [List.foldl_cons];have hx:=hb x (by simp);have h3 : m<=(if x.2 > m then x.2 else m)/\x.2<=(if x.2 > m then x.2 else m)/\(if x.2 > m then x.2 else m)<=b:=by split <;> omega
  obtain ⟨h1,h2,h4⟩:=great_fold r (if x.2 > m then x.2 else m) b h3.2.2 (fun p hp=>hb p (by simp [hp]));refine ⟨by omega,?_,h4⟩;intro p hp;rcases List.mem_cons.1 hp with rfl | hp
  ·omega
  ·exact h2 p hp
theorem hull_lists (spans ps : List (Int × Int)) (lo hi : Int) (h : ∀ p ∈ spans,lo<=p.1/\p.2<=hi) : spanLists spans (ps.filter (fun q=>isIn q.1 lo hi)) = spanLists spans ps:=by
 unfold spanLists;apply List.map_congr_left;intro p hp;rw [List.filter_filter];apply List.filter_congr;intro q _;obtain ⟨h1,h2⟩:=h p hp;unfold inSpan;by_cases hq : isIn q.1 p.1 p.2 = true
 ·have:=isIn_iff.1 hq
  rw [hq,isIn_true (by omega)]; rfl
 ·simp [hq]
theorem spansOk_mem : ∀ {l : List (Int × Int)},spansOkX l = true->∀ p ∈ l,p.2<=1099511627776
 | [],_,p,hp=>by cases hp
 | x :: r,h,p,hp=>by
  simp only [spansOkX,Bool.and_eq_true,isIn_iff] at h;rcases List.mem_cons.1 hp with rfl | hp
  ·have:=h.2.1.2; omega
  ·exact spansOk_mem h.2.2.2 p hp
theorem hull_answer {spans : List (Int × Int)} (hs : spansOkX spans = true) (ps : List (Int × Int)) (c : Int) : answerOf spans (ps.filter (fun q=>isIn q.1 (leastLo spans) (greatestHi spans))) c = answerOf spans ps c/\greatestHi spans<=1099511627776:=by
 obtain ⟨_,h2,h3⟩:=great_fold spans 0 1099511627776 (by omega) (spansOk_mem hs);have h1:=(least_fold spans (2 ^ 40)).2;refine ⟨?_,h3⟩;unfold answerOf;rw [hull_lists spans ps (leastLo spans) (greatestHi spans) (fun p hp=>⟨h1 p hp,h2 p hp⟩)]
end
section
def Srt (R : List (Int × Int)) : Prop:=R.Pairwise (fun p q=>p.1 < q.1)
theorem mem_shPut {R : List (Int × Int)} {k v : Int} {p : Int × Int} : p ∈ shPut R k v ↔ (p ∈ R/\p.1≠k)\/p = (k,v):=by
 unfold shPut shLo shHi shSide;simp only [List.mem_append,List.mem_filter,List.mem_singleton,if_true,decide_eq_true_eq,Bool.false_eq_true,if_false];constructor
 ·rintro ((⟨h1,h2⟩ | h1) | ⟨h1,h2⟩)
  ·exact .inl ⟨h1,by omega⟩
  ·exact .inr h1
  ·exact .inl ⟨h1,by omega⟩
 ·rintro (⟨h1,h2⟩ | h1)
  ·rcases (show p.1 < k\/k < p.1 by omega) with q | q
   ·exact .inl (.inl ⟨h1,q⟩)
   ·exact .inr ⟨h1,q⟩
  ·exact .inl (.inr h1)
theorem mem_shDel {R : List (Int × Int)} {k : Int} {p : Int × Int} : p ∈ shDel R k ↔ p ∈ R/\p.1≠k:=by
 unfold shDel shLo shHi shSide;simp only [List.mem_append,List.mem_filter,if_true,decide_eq_true_eq,Bool.false_eq_true,if_false];constructor
 ·rintro (⟨h1,h2⟩ | ⟨h1,h2⟩)
  ·exact ⟨h1,by omega⟩
  ·exact ⟨h1,by omega⟩
 ·rintro ⟨h1,h2⟩;rcases (show p.1 < k\/k < p.1 by omega) with q | q
  ·exact .inl ⟨h1,q⟩
  ·exact .inr ⟨h1,q⟩
theorem Srt.put {R : List (Int × Int)} (h : Srt R) (k v : Int) : Srt (shPut R k v):=by
 unfold Srt shPut;rw [List.append_assoc,List.pairwise_append];have hlo : ∀ p ∈ shLo R k,p.1 < k:=by intro p hp; unfold shLo shSide at hp; simp at hp; exact hp.2
 have hhi : ∀ p ∈ shHi R k,k < p.1:=by intro p hp; unfold shHi shSide at hp; simp at hp; exact hp.2
 refine ⟨h.filter _,List.pairwise_append.2 ⟨List.pairwise_singleton _ _,h.filter _,?_⟩,?_⟩
 ·intro p hp q hq;simp at hp; subst hp;exact hhi q hq
 ·intro p hp q hq;have h1:=hlo p hp;rcases List.mem_append.1 hq with hq | hq
  ·simp at hq; subst hq; exact h1
  ·have:=hhi q hq; omega
theorem Srt.del {R : List (Int × Int)} (h : Srt R) (k : Int) : Srt (shDel R k):=by
 unfold Srt shDel;rw [List.pairwise_append];have hlo : ∀ p ∈ shLo R k,p.1 < k:=by intro p hp; unfold shLo shSide at hp; simp at hp; exact hp.2
 have hhi : ∀ p ∈ shHi R k,k < p.1:=by intro p hp; unfold shHi shSide at hp; simp at hp; exact hp.2
 refine ⟨h.filter _,h.filter _,?_⟩;intro p hp q hq;have h1:=hlo p hp;have h2:=hhi q hq;omega
theorem shVal_in {R : List (Int × Int)} (h : Srt R) {k v : Int} (hp : (k,v) ∈ R) : shVal R k = (v,true):=by
 obtain ⟨j,hj⟩:=List.mem_iff_getElem?.1 hp;refine shVal_hit ?_ hj rfl;intro p hp2 e;obtain ⟨i,hi⟩:=List.mem_iff_getElem?.1 hp2;have hlt : i < j:=by
  have:=(List.getElem?_eq_some_iff.1 hi).1
  rw [List.length_take] at this; omega
 rw [List.getElem?_take] at hi;rw [if_pos hlt] at hi;obtain ⟨hi1,hi2⟩:=List.getElem?_eq_some_iff.1 hi;obtain ⟨hj1,hj2⟩:=List.getElem?_eq_some_iff.1 hj
 have:=List.pairwise_iff_getElem.1 h i j hi1 hj1 hlt
 rw [hi2,hj2] at this;simp only at this;omega
theorem shVal_out {R : List (Int × Int)} {k : Int} (h : ∀ p ∈ R,p.1≠k) : shVal R k = (0,false):=shVal_miss h
end
section
namespace T
namespace Tr
@[grind] def rows : Tr->List (Int × Int)
 | lf _ k v=>[(k,v)]
 | nd _ _ l r=>l.rows ++ r.rows
@[grind] def size : Tr->Nat
 | lf _ _ _=>1
 | nd _ _ l r=>1 + l.size + r.size
@[grind] def ns : Tr->List Int
 | lf p _ _=>[p]
 | nd p _ l r=>p :: (l.ns ++ r.ns)
@[grind] def Su : Int->Bool->Tr->Int->Bool->Tr->Prop
 | u,b,lf p k v,x,s,w=>x = u/\s = b/\w = lf p k v
 | u,b,nd p q l r,x,s,w=>(x = u/\s = b/\w = nd p q l r)\/Su p false l x s w\/Su p true r x s w
@[grind] def len (k : Int) : Tr->Nat
 | lf _ _ _=>0
 | nd _ q l r=>1 + (if q<=k then r.len k else l.len k)
@[grind] def rem (k : Int) : Tr->Int->Nat
 | lf _ _ _,_=>0
 | nd p q l r,x=>if x = p then 1 + (if q<=k then r.len k else l.len k) else (if q<=k then r.rem k x else l.rem k x)
variable {t w : Tr} {u x y d k q v : Int} {b s : Bool}
theorem su_ed {t : Tr} : ∀ {u b},Su u b t x s w->Ed u b t x s w.pl:=by
 induction t with
 | lf=>intro u b; simp [Su,Ed]; rintro rfl rfl rfl; exact ⟨rfl,rfl,rfl⟩
 | nd p k l r h1 h2 =>
  intro u b h;rcases h with ⟨rfl,rfl,rfl⟩ | h | h
  ·exact .inl ⟨rfl,rfl,rfl⟩
  ·exact .inr (.inl (h1 h))
  ·exact .inr (.inr (h2 h))
theorem su_root (u b) (t : Tr) : Su u b t u b t:=by cases t <;> simp [Su]
theorem su_ok {t : Tr} : ∀ {u b},t.Ok->Su u b t x s w->w.Ok:=by
 induction t with
 | lf=>intro u b ho h; simp [Su] at h; rw [h.2.2]; exact ho
 | nd p k l r h1 h2 =>
  intro u b ho h;rcases h with ⟨rfl,rfl,rfl⟩ | h | h
  ·exact ho
  ·exact h1 ho.2.2.1 h
  ·exact h2 ho.2.2.2 h
theorem su_lf {t : Tr} {p : Int} : ∀ {u b},Su u b t x s (lf p k v)->t.Lea p k v:=by
 induction t with
 | lf=>intro u b h; simp [Su] at h; simp [Lea,h]
 | nd p' k' l r h1 h2 =>
  intro u b h;rcases h with ⟨_,_,h⟩ | h | h
  ·cases h
  ·exact .inl (h1 h)
  ·exact .inr (h2 h)
theorem su_nd {t l r : Tr} {p : Int} : ∀ {u b},Su u b t x s (nd p q l r)->t.Nod p q/\Su u b t p false l/\Su u b t p true r:=by
 induction t with
 | lf=>intro u b h; simp [Su] at h
 | nd p' k' l' r' h1 h2 =>
  intro u b h;rcases h with ⟨_,_,h⟩ | h | h
  ·cases h;exact ⟨.inl ⟨rfl,rfl⟩,.inr (.inl (su_root _ _ _)),.inr (.inr (su_root _ _ _))⟩
  ·obtain ⟨a1,a2,a3⟩:=h1 h;exact ⟨.inr (.inl a1),.inr (.inl a2),.inr (.inl a3)⟩
  ·obtain ⟨a1,a2,a3⟩:=h2 h;exact ⟨.inr (.inr a1),.inr (.inr a2),.inr (.inr a3)⟩
theorem mem_rows {t : Tr} : (k,v) ∈ t.rows ↔ ∃ x,t.Lea x k v:=by
 induction t with
 | lf p q w=>simp [rows,Lea]
 | nd p q l r h1 h2 =>
  simp only [rows,List.mem_append,h1,h2,Lea];constructor
  ·rintro (⟨x,h⟩ | ⟨x,h⟩)
   ·exact ⟨x,.inl h⟩
   ·exact ⟨x,.inr h⟩
  ·rintro ⟨x,h | h⟩
   ·exact .inl ⟨x,h⟩
   ·exact .inr ⟨x,h⟩
theorem rows_srt {t : Tr} (ho : t.Ok) : Srt t.rows:=by
 induction t with
 | lf=>simp [rows,Srt]
 | nd p q l r h1 h2 =>
  obtain ⟨o1,o2,o3,o4⟩:=ho;refine List.pairwise_append.2 ⟨h1 o3,h2 o4,?_⟩;rintro ⟨k1,v1⟩ m1 ⟨k2,v2⟩ m2;obtain ⟨x,e1⟩:=mem_rows.1 m1;obtain ⟨y,e2⟩:=mem_rows.1 m2
  have:=o1 _ _ _ e1
  have:=o2 _ _ _ e2
  show k1 < k2;omega
theorem rem_lt {t : Tr} : ∀ {u b},t.Dj->¬ t.Has u->t.Pth k x->t.Nod x q->Ed u b t x (decide (q<=k)) d->t.Pth k d->t.rem k d < t.rem k x:=by
 have root : ∀ w : Tr,w.Pth k w.pl->w.rem k w.pl = w.len k:=by
  intro w hw; cases w <;> simp_all [Pth,pl,rem,len]
 induction t with
 | lf=>simp [Pth]
 | nd p q' l r h1 h2 =>
  intro u b hd hu hp hn he hpd;have a1:=@ed_has; have a2:=@inn_has; have a3:=@ed_root; have a4:=@nod_has; have a5:=@pth_has; have r1:=root l; have r2:=root r;have a8:=@has_pl;by_cases hx : x = p
  ·subst hx;have hq : q = q':=nod_fn hd hn (.inl ⟨rfl,rfl⟩);subst hq;have hdx : d≠x:=fun e=>ed_ne hd hu he e.symm
   by_cases hk : q<=k
   ·have e1 : Ed x true r x true d:=by simp [hk] at he; grind
    have e2:=(ed_root (by grind) (by grind) e1).2;have e3 : r.Pth k d:=by grind
    simp only [rem,if_neg hdx,if_pos hk,if_true];rw [e2] at e3 ⊢; rw [r2 e3]; omega
   ·have e1 : Ed x false l x false d:=by simp [hk] at he; grind
    have e2:=(ed_root (by grind) (by grind) e1).2;have e3 : l.Pth k d:=by grind
    simp only [rem,if_neg hdx,if_neg hk,if_true];rw [e2] at e3 ⊢; rw [r1 e3]; omega
  ·have hdp : d≠p:=by
    rintro rfl
    have:=ed_par hd hu he (ed_pl u b _)
    have hux : x = u:=this.1;exact hu (hux ▸ pth_has hp)
   by_cases hk : q'<=k
   ·simp only [rem,if_neg hdp,if_neg hx,if_pos hk];exact @h2 p true (by grind) (by grind) (by grind) (by grind) (by grind) (by grind)
   ·simp only [rem,if_neg hdp,if_neg hx,if_neg hk];exact @h1 p false (by grind) (by grind) (by grind) (by grind) (by grind) (by grind)
theorem rem_len (t : Tr) (x : Int) : t.rem k x<=t.len k:=by
 induction t with
 | lf=>simp [rem]
 | nd p q l r h1 h2=>simp only [rem,len]; split <;> split <;> omega
theorem rem_pos {t : Tr} (h : t.Pth k x) : 1<=t.rem k x:=by
 induction t with
 | lf=>simp [Pth] at h
 | nd p q l r h1 h2 =>
  simp only [rem];split
  ·omega
  ·next hx =>
   rcases h with e | ⟨e1,e2⟩ | ⟨e1,e2⟩
   ·exact absurd e hx
   ·rw [if_pos e1]; exact h2 e2
   ·rw [if_neg (by omega)]; exact h1 e2
theorem len_size (t : Tr) : t.len k + 1<=t.size:=by
 induction t with
 | lf=>simp [len,size]
 | nd p q l r h1 h2=>simp only [len,size]; split <;> omega
theorem ns_len (t : Tr) : t.ns.length = t.size:=by
 induction t with
 | lf=>simp [ns,size]
 | nd p q l r h1 h2=>simp [ns,size,h1,h2]; omega
theorem mem_ns {t : Tr} : x ∈ t.ns ↔ t.Has x:=by
 induction t with
 | lf=>simp [ns,Has]
 | nd p q l r h1 h2=>simp [ns,Has,h1,h2]
theorem ns_nodup {t : Tr} (hd : t.Dj) : t.ns.Nodup:=by
 induction t with
 | lf=>simp [ns]
 | nd p q l r h1 h2 =>
  obtain ⟨d1,d2,d3,d4,d5⟩:=hd;simp only [ns,List.nodup_cons,List.mem_append,mem_ns];refine ⟨fun e=>e.elim d1 d2,List.nodup_append.2 ⟨h1 d4,h2 d5,?_⟩⟩;intro a ha b hb e;rw [mem_ns] at ha hb;subst e; exact d3 a ha hb
end Tr
theorem nodup_le : ∀ {l m : List Int},l.Nodup->(∀ x ∈ l,x ∈ m)->l.length<=m.length
 | [],_,_,_=>by simp
 | x :: l,m,hn,hs=>by
  obtain ⟨h1,h2⟩:=List.nodup_cons.1 hn;have hx:=hs x (by simp)
  have:=nodup_le (l:=l) (m:=m.erase x) h2 (fun y hy=>by
   refine (List.mem_erase_of_ne ?_).2 (hs y (by simp [hy]));rintro rfl; exact h1 hy)
  rw [List.length_erase_of_mem hx] at this;have : 0 < m.length:=List.length_pos_of_mem hx
  simp; omega
theorem Ver.size {M : PMem} {ts : List PThread} {t : Tr} {T : Int} (hR : Ver M ts t T) (hd : t.Dj) (hz : ¬ t.Has 0) : t.size + 1<=M.ns.length:=by
 have h1:=nodup_le (l:=0 :: t.ns) (m:=(List.range M.ns.length).map (fun (n : Nat)=>(n : Int))) (by
  refine List.nodup_cons.2 ⟨fun e=>hz (Tr.mem_ns.1 e),Tr.ns_nodup hd⟩) ?_
 ·simp only [List.length_cons,Tr.ns_len,List.length_map,List.length_range] at h1; exact h1
 ·intro x hx;rw [List.mem_map];have hin : 0<=x/\x < M.ns.length\/(x = 0/\M.ns.length = 0):=by
   rcases List.mem_cons.1 hx with rfl | hx
   ·by_cases e : M.ns.length = 0
    ·exact .inr ⟨rfl,e⟩
    ·exact .inl (by omega)
   ·left;have hh:=Tr.mem_ns.1 hx;have hu : Us M x:=by
     rcases Tr.has_or hh with ⟨q,hq⟩ | ⟨q,w,hq⟩
     ·exact (hR.a.n x q hq).1
     ·exact (hR.a.l x q w hq).1
    exact hasN_iff.1 (hasN_used hu)
  rcases hin with e | ⟨_,e⟩
  ·exact ⟨x.toNat,by simp; omega,by omega⟩
  ·exfalso;have hp:=Tr.has_pl t;have hu : Us M t.pl:=by
    rcases Tr.has_or hp with ⟨q,hq⟩ | ⟨q,w,hq⟩
    ·exact (hR.a.n _ q hq).1
    ·exact (hR.a.l _ q w hq).1
   have:=hasN_iff.1 (hasN_used hu)
   omega
end T
end
end Go.Proofs.YtfccelbmacjifabGreat
