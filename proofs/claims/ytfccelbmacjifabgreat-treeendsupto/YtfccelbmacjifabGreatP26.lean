import Derived.Test.YtfccelbmacjifabGreatP0
import Derived.Test.YtfccelbmacjifabGreatP25
import Derived.Test.YtfccelbmacjifabGreatP10
set_option linter.unusedSimpArgs false
set_option maxRecDepth 100000
set_option maxHeartbeats 4000000
namespace Go.Proofs.YtfccelbmacjifabGreat
section
open Go.RowKit
theorem Tryz.infoBoolP : (Tryz.prog.info? 4).map (fun i=>(i.zero,i.size,i.bytes)) = some (some (.bool false),1,1):=by kernel_rfl
theorem Tryz.infoOpP : (Tryz.prog.info? 53).map (fun i=>(i.zero,i.size,i.bytes)) = some (some (.agg #[.int .i64 0,.int .i64 0,.int .i64 0,.slice none 0 0]),4,48):=by kernel_rfl
def blankOp : OpV:=⟨0,0,0,[],.slice none 0 0⟩
theorem rep_succ {α : Type} (a : α) (j : Nat) : List.replicate j a ++ [a] = List.replicate (j + 1) a:=by
 rw [List.replicate_succ']
theorem fit_fresh {κ t n e l : Int} (hκ : κ = 0\/κ = 1) (ht : 1<=t/\t<=8) (hl : 0<=l/\l<=1099511627776) : Fit 0 (freshP κ t n e l):=by
 refine ⟨hκ,⟨by show (0 : Int)<=0; omega,hl.1⟩,hl.2,by simp [freshP]; omega,by simp [freshP,PSweep.zero],?_⟩;intro i u hu
 have:=(List.mem_replicate.1 (List.mem_of_getElem? (show (List.replicate t.toNat PThread.zero)[i]? = some u from hu))).2
 subst this;exact ⟨fun hb=>by simp [PThread.zero] at hb,SmallAns.zero rfl⟩
structure Grown (κ : Int) (w0 w : World) (pb s : Nat) (t n e l : Int) (bv ov fv : Value) (jb jo jf : Nat) : Prop where
 at_ : At w pb [pv s,.int .i64 κ,.int .i64 t,.int .i64 n,.int .i64 e,.int .i64 l,bv,ov,fv,.slice none 0 0,.int .i64 0,.int .i64 0] 42
 b : w.ownsRow 0 4 1 bv jb (boolCells (List.replicate jb false))
 o : w.ownsRow 0 53 4 ov jo ((List.replicate jo blankOp).flatMap OpV.cells)
 f : w.ownsRow 0 3 1 fv jf (intCells (List.replicate jf 0))
 nb : ∀ k,bv.ownBlock = some k->w0.heap.size<=k
 no : ∀ k,ov.ownBlock = some k->w0.heap.size<=k
 nf : ∀ k,fv.ownBlock = some k->w0.heap.size<=k
 np : w0.heap.size<=pb
 fr : Fr (fun _=>False) w0 w
section
variable {κ : Int} {w0 w : World} {pb s : Nat} {t n e l : Int} {bv ov fv : Value} {jb jo jf : Nat}
theorem apartBlk {v u : Value} (h : v.ownBlock = none\/v.ownBlock≠u.ownBlock) : ∀ k,u.ownBlock = some k->¬ v.ownBlock = some k:=by
 intro k hk hb;rcases h with h1 | h1
 ·rw [h1] at hb; cases hb
 ·rw [hb,hk] at h1; exact h1 rfl
theorem Grown.pushB (h : Grown κ w0 w pb s t n e l bv ov fv jb jo jf) {w5 : World} {g cap : Nat} {ob : Obj} (hown : w5.ownsRow 0 4 1 (.slice (some ⟨g,0,none⟩) (jb + 1) cap) (jb + 1) (boolCells (List.replicate jb false) ++ [.bool false])) (hgr : (w.alloc ob).grownBy w5 bv.ownBlock) (hge : bv.ownBlock = some g\/w.heap.size<=g) :
  Grown κ w0 (w5.setCell ⟨pb,6,none⟩ (.slice (some ⟨g,0,none⟩) (jb + 1) cap)) pb s t n e l (.slice (some ⟨g,0,none⟩) (jb + 1) cap) ov fv (jb + 1) (jo) (jf):=by
 have hF : Fr (fun k=>bv.ownBlock = some k) w w5:=Fr.grown ((Fr.refl _ _).alloc ob) hgr (fun k hk=>.inl hk);have hA : At w5 pb _ 42:=hF.at h.at_ (h.at_.ne_row h.b (by decide));have hne:=hA.ne_row hown (by decide);have hr:=ownsRow_setOther hown (a:=⟨pb,6,none⟩) hne (.slice (some ⟨g,0,none⟩) (jb + 1) cap);have hn : ∀ k,(Value.slice (some ⟨g,0,none⟩) (jb + 1) cap).ownBlock = some k->w0.heap.size<=k:=by
  intro k hk;simp [Value.ownBlock] at hk;subst hk;rcases hge with h1 | h1
  ·exact h.nb _ h1
  ·have:=h.fr.size; omega
 refine ⟨hA.set 6 _,?_,ownsRow_setOther (hF.owns h.o (apartBlk (ownsRow_ne h.b h.o (by decide)))) (h.at_.ne_row h.o (by decide)) _,ownsRow_setOther (hF.owns h.f (apartBlk (ownsRow_ne h.b h.f (by decide)))) (h.at_.ne_row h.f (by decide)) _,hn,h.no,h.nf,h.np,Fr.setNew h.np (Fr.transNew h.fr hF (fun k hk=>.inr (h.nb k hk))) 6 _⟩;rw [show boolCells (List.replicate (jb + 1) false) = boolCells (List.replicate jb false) ++ [.bool false] from by rw [<- rep_succ]; simp [boolCells]];exact hr
theorem Grown.pushO (h : Grown κ w0 w pb s t n e l bv ov fv jb jo jf) {w5 : World} {g cap : Nat} {ob : Obj} (hown : w5.ownsRow 0 53 4 (.slice (some ⟨g,0,none⟩) (jo + 1) cap) (jo + 1) ((List.replicate jo blankOp).flatMap OpV.cells ++ [.int .i64 0,.int .i64 0,.int .i64 0,.slice none 0 0])) (hgr : (w.alloc ob).grownBy w5 ov.ownBlock) (hge : ov.ownBlock = some g\/w.heap.size<=g) :
  Grown κ w0 (w5.setCell ⟨pb,7,none⟩ (.slice (some ⟨g,0,none⟩) (jo + 1) cap)) pb s t n e l bv (.slice (some ⟨g,0,none⟩) (jo + 1) cap) fv (jb) (jo + 1) (jf):=by
 have hF : Fr (fun k=>ov.ownBlock = some k) w w5:=Fr.grown ((Fr.refl _ _).alloc ob) hgr (fun k hk=>.inl hk);have hA : At w5 pb _ 42:=hF.at h.at_ (h.at_.ne_row h.o (by decide));have hne:=hA.ne_row hown (by decide);have hr:=ownsRow_setOther hown (a:=⟨pb,7,none⟩) hne (.slice (some ⟨g,0,none⟩) (jo + 1) cap);have hn : ∀ k,(Value.slice (some ⟨g,0,none⟩) (jo + 1) cap).ownBlock = some k->w0.heap.size<=k:=by
  intro k hk;simp [Value.ownBlock] at hk;subst hk;rcases hge with h1 | h1
  ·exact h.no _ h1
  ·have:=h.fr.size; omega
 refine ⟨hA.set 7 _,ownsRow_setOther (hF.owns h.b (apartBlk (ownsRow_ne h.o h.b (by decide)))) (h.at_.ne_row h.b (by decide)) _,?_,ownsRow_setOther (hF.owns h.f (apartBlk (ownsRow_ne h.o h.f (by decide)))) (h.at_.ne_row h.f (by decide)) _,h.nb,hn,h.nf,h.np,Fr.setNew h.np (Fr.transNew h.fr hF (fun k hk=>.inr (h.no k hk))) 7 _⟩;rw [show (List.replicate (jo + 1) blankOp).flatMap OpV.cells = (List.replicate jo blankOp).flatMap OpV.cells ++ [.int .i64 0,.int .i64 0,.int .i64 0,.slice none 0 0] from by rw [<- rep_succ,List.flatMap_append]; rfl];exact hr
theorem Grown.pushF (h : Grown κ w0 w pb s t n e l bv ov fv jb jo jf) {w5 : World} {g cap : Nat} {ob : Obj} (hown : w5.ownsRow 0 3 1 (.slice (some ⟨g,0,none⟩) (jf + 1) cap) (jf + 1) (intCells (List.replicate jf 0) ++ [.int .i64 0])) (hgr : (w.alloc ob).grownBy w5 fv.ownBlock) (hge : fv.ownBlock = some g\/w.heap.size<=g) :
  Grown κ w0 (w5.setCell ⟨pb,8,none⟩ (.slice (some ⟨g,0,none⟩) (jf + 1) cap)) pb s t n e l bv ov (.slice (some ⟨g,0,none⟩) (jf + 1) cap) (jb) (jo) (jf + 1):=by
 have hF : Fr (fun k=>fv.ownBlock = some k) w w5:=Fr.grown ((Fr.refl _ _).alloc ob) hgr (fun k hk=>.inl hk);have hA : At w5 pb _ 42:=hF.at h.at_ (h.at_.ne_row h.f (by decide));have hne:=hA.ne_row hown (by decide);have hr:=ownsRow_setOther hown (a:=⟨pb,8,none⟩) hne (.slice (some ⟨g,0,none⟩) (jf + 1) cap);have hn : ∀ k,(Value.slice (some ⟨g,0,none⟩) (jf + 1) cap).ownBlock = some k->w0.heap.size<=k:=by
  intro k hk;simp [Value.ownBlock] at hk;subst hk;rcases hge with h1 | h1
  ·exact h.nf _ h1
  ·have:=h.fr.size; omega
 refine ⟨hA.set 8 _,ownsRow_setOther (hF.owns h.b (apartBlk (ownsRow_ne h.f h.b (by decide)))) (h.at_.ne_row h.b (by decide)) _,ownsRow_setOther (hF.owns h.o (apartBlk (ownsRow_ne h.f h.o (by decide)))) (h.at_.ne_row h.o (by decide)) _,?_,h.nb,h.no,hn,h.np,Fr.setNew h.np (Fr.transNew h.fr hF (fun k hk=>.inr (h.nf k hk))) 8 _⟩;rw [show intCells (List.replicate (jf + 1) 0) = intCells (List.replicate jf 0) ++ [.int .i64 0] from by rw [<- rep_succ]; simp [intCells]];exact hr
end
section
variable {own : Own} {z : Nat}
structure FreshPl (κ t n e l : Int) (D : PlD) : Prop where
 P : D.P = freshP κ t n e l
 N : D.N = 0
 ok : D.ok
 cfg : D.k = κ/\D.t = t/\D.n = n/\D.e = e/\D.l = l
 deeds : D.deeds = []
 cnt : D.puts = 0/\D.takes = 0
theorem Grown.player {w w0 w' : World} {pb : Nat} {κ t n e l : Int} {bv ov fv : Value} {L : XLay} (hκ : κ = 0\/κ = 1) (ht : 1<=t/\t<=8) (hl : 0<=l/\l<=1099511627776) (hX : XAt w0 L (freshX κ t n e l)) (hL : ∀ b,L.own b->w.heap.size<=b) (hw : w.heap.size<=w0.heap.size) (hf : Fr (fun _=>False) w w0)
  (h : Grown κ w0 w' pb L.s t n e l bv ov fv t.toNat t.toNat t.toNat) : ∃ own' D,PlAt own' z w' pb D/\Ext own own' w/\FreshPl κ t n e l D/\Fr (fun _=>False) w w':=by
 obtain ⟨own1,L',hZ,hE1,es⟩:=ZAt.ofNew (own:=own) (z:=z) (w:=w) hX hL ht.2;obtain ⟨own2,ho2⟩ : ∃ own2 : Own,own2 = fun k=>if k = pb then ⟨z + 1,.store⟩ else if bv.ownBlock = some k then ⟨z + 1,.oth 1⟩ else if ov.ownBlock = some k then ⟨z + 1,.oth 2⟩ else if fv.ownBlock = some k then ⟨z + 1,.oth 3⟩ else own1 k:=⟨_,rfl⟩
 have hE2 : Ext own1 own2 w0:=by
  intro k hk;rw [ho2];simp only;rw [if_neg (fun e=>by have:=h.np; omega),if_neg (fun e=>by have:=h.nb k e; omega),if_neg (fun e=>by have:=h.no k e; omega),if_neg (fun e=>by have:=h.nf k e; omega)]
 have pne : ∀ k v (n : Nat) xs T sz,w'.ownsRow 0 T sz v n xs->T≠42->v.ownBlock = some k->k≠pb:=by
  rintro k v n xs T sz hr hT hk rfl;exact h.at_.ne_row hr (fun e=>hT e.symm) hk
 have o1 : ∀ k,bv.ownBlock = some k->own2 k = ⟨z + 1,.oth 1⟩:=by
  intro k hk; rw [ho2]; simp only;rw [if_neg (pne k _ _ _ _ _ h.b (by decide) hk),if_pos hk]
 have o2 : ∀ k,ov.ownBlock = some k->own2 k = ⟨z + 1,.oth 2⟩:=by
  intro k hk; rw [ho2]; simp only;rw [if_neg (pne k _ _ _ _ _ h.o (by decide) hk),if_neg (apartBlk (ownsRow_ne h.b h.o (by decide)) k hk),if_pos hk]
 have o3 : ∀ k,fv.ownBlock = some k->own2 k = ⟨z + 1,.oth 3⟩:=by
  intro k hk; rw [ho2]; simp only;rw [if_neg (pne k _ _ _ _ _ h.f (by decide) hk),if_neg (apartBlk (ownsRow_ne h.b h.f (by decide)) k hk),if_neg (apartBlk (ownsRow_ne h.o h.f (by decide)) k hk),if_pos hk]
 have hop : own2 pb = ⟨z + 1,.store⟩:=by rw [ho2]; simp
 have hlen : (freshP κ t n e l).ts.length = t.toNat:=by simp [freshP]
 refine ⟨own2,{ L:=L',P:=freshP κ t n e l,N:=0,k:=κ,t:=t,n:=n,e:=e,l:=l,bv:=bv,ov:=ov,fv:=fv,dv:=.slice none 0 0,bs:=List.replicate t.toNat false,ops:=List.replicate t.toNat blankOp,frm:=List.replicate t.toNat 0,deeds:=[],puts:=0,takes:=0 },⟨?_,hop,hZ.fr h.fr hE2 (fun _ _ h=>h),fit_fresh hκ ht hl,by rw [hlen]; show t = _; omega,⟨by rw [hlen]; exact h.b,o1⟩,by rw [hlen]; simp,⟨by rw [hlen]; exact h.o,o2⟩,by rw [hlen]; simp,⟨by rw [hlen]; exact h.f,o3⟩,by rw [hlen]; simp,Row.nil _ _ _ _ _ _,?_,by simp⟩,?_,⟨rfl,rfl,?_,⟨rfl,rfl,rfl,rfl,rfl⟩,rfl,⟨rfl,rfl⟩⟩,hf.trans h.fr⟩
 ·have:=h.at_
  simp only [PlD.cells,es];exact this
 ·intro o ho
  have:=(List.mem_replicate.1 ho).2
  subst this;exact Row.nil _ _ _ _ _ _
 ·intro k hk; rw [hE2 k (by omega)]; exact hE1 k hk
 ·show List.replicate t.toNat false = (List.replicate t.toNat PThread.zero).map (·.busy);rw [List.map_replicate]; rfl
theorem player_calls (κ t n e l : Int) (w : World) (own : Own) (z : Nat) (hok : okCfg κ t n e l = true) :
  Calls Tryz.prog 16 #[cfg κ t n e l] w fun r w'=>∃ pb,r = .returned (pv pb)/\∃ own' D,PlAt own' z w' pb D/\Ext own own' w/\FreshPl κ t n e l D/\Fr (fun _=>False) w w':=by
 obtain ⟨hκ,ht,hn,he,hl⟩ : (0<=κ/\κ<=1)/\(1<=t/\t<=8)/\(0<=n/\n<=64)/\(1<=e/\e<=256)/\(0<=l/\l<=1099511627776):=by
  simp only [okCfg,Bool.and_eq_true,isIn_iff] at hok;omega
 obtain ⟨iB,hiB,hzB,hsB,hbB⟩:=info_parts Tryz.infoBoolP;obtain ⟨iO,hiO,hzO,hsO,hbO⟩:=info_parts Tryz.infoOpP;obtain ⟨iI,hiI,hzI,hsI,hbI⟩:=info_parts Tryz.infoIntZ;have HOK : Hid _:=hok;have HK:=(mkH (κ = 0\/κ = 1) <|(show κ = 0\/κ = 1 by omega));have HLm:=(mkH (0<=l/\l<=1099511627776) <|hl);obtain ⟨ht1,ht2⟩:=ht;clear hok hn he hl hκ;unfold cfg
 go_enter Tryz.func16,Tryz.ntmps16
 go_wp2_with fail;refine (XNew_yes κ t n e l _ HOK.out).mono ?_;rintro r w1 ⟨L,rfl,hX,hF1,hL⟩;have hC : At w1 w.heap.size [.int .i64 κ,.int .i64 t,.int .i64 n,.int .i64 e,.int .i64 l] 23:=hF1.at (At.new w _ _) (fun h=>h);have hcc:=hC.cell;have HC:=(mkH (At w1 w.heap.size _ 23) <|hC);have HF1:=(mkH (Fr (fun _=>False) w w1) <|((Fr.refl _ _).alloc _).trans hF1);have HX:=(mkH (XAt _ _ _) <|hX);simp only [World.size_alloc] at hL;have HL:=(mkH (∀ b,L.own b->w.heap.size<=b) <|fun b hb=>by have:=hL b hb; omega);clear hF1 hC hX hL;go_wp2_with fail;have HG0 : Hid (Grown κ w1 (w1.alloc (.cells #[.pointer (some ⟨L.s,0,none⟩),.int .i64 κ,.int .i64 t,.int .i64 n,.int .i64 e,.int .i64 l,.slice none 0 0,.slice none 0 0,.slice none 0 0,.slice none 0 0,.int .i64 0,.int .i64 0] 42)) w1.heap.size L.s t n e l (.slice none 0 0) (.slice none 0 0) (.slice none 0 0) 0 0 0) :=
  ⟨At.new w1 _ _,⟨by simp [boolCells],.inl ⟨rfl,rfl⟩⟩,⟨by simp,.inl ⟨rfl,rfl⟩⟩,⟨by simp [intCells],.inl ⟨rfl,rfl⟩⟩,by intro k hk; simp [Value.ownBlock] at hk,by intro k hk; simp [Value.ownBlock] at hk,by intro k hk; simp [Value.ownBlock] at hk,Nat.le_refl _,(Fr.refl _ _).alloc _⟩
 generalize hpb : w1.heap.size = pb at HG0 ⊢;clear hcc
 go_loopw [6] (fun i wr=>∃ j : Nat,(j : Int)<=t/\i = .int .i64 j/\∃ bv ov fv,Hid (Grown κ w1 wr pb L.s t n e l bv ov fv j j j)) (fun i _=>(t - intOf i).toNat)
 case atStart=>exact ⟨0,by omega,rfl,_,_,_,HG0⟩
 case round =>
  clear HG0;obtain ⟨j,hj,rfl,bv,ov,fv,HG⟩:=hrel;have hcc:=(HG.out.fr.at HC.out (fun h=>h)).cell;have ha:=HG.out.at_.cell;have hz:=HG.out.at_.frozen;have hpl:=HG.out.at_.lt;simp only [pv] at ha;by_cases hlt : (j : Int) < t
  ·have hne : w.heap.size≠pb:=(HG.out.fr.at HC.out (fun h=>h)).ne HG.out.at_ (by decide);obtain ⟨ba,bc,hbv⟩:=ownsShape HG.out.b;obtain ⟨oa,oc,hov⟩:=ownsShape HG.out.o;obtain ⟨fa,fc,hfv⟩:=ownsShape HG.out.f;subst hbv hov hfv;go_wp2_with (at_builtin; refine wpList_push _ rfl _ _ 37 rfl 0 4 iB _ 1 1 Tryz.underlying37 hiB hzB hsB hbB rfl (by decide) _ _ _ rfl (ownsRow_alloc HG.out.b _) wr.heap.size [.bool false] rfl rfl 4 (At.newAt (by simp) _ _) (by simp [Value.oneCell']) (by unfold maxLen; omega) (by omega) (by simp) ?_);intro g1 k1 w2 hown hgr hge;have hA2 : At w2 pb _ 42:=(Fr.grown ((Fr.refl (fun k=>(Value.slice ba j bc).ownBlock = some k) wr).alloc _) hgr (fun k hk=>.inl hk)).at HG.out.at_ (HG.out.at_.ne_row HG.out.b (by decide));have HG1:=(mkH (Grown κ w1 _ pb L.s t n e l _ _ _ (j + 1) j j) <|HG.out.pushB hown hgr (by rcases hge with h | h; exact .inl h; exact .inr (by first | omega | (simp at h; omega))));have ha2:=hA2.cell;have hz2:=hA2.frozen;have hl2:=hA2.lt;simp only [pv] at ha2;clear hown hgr hge hA2 ha hz hpl HG hcc;obtain ⟨w3,hw3⟩ : ∃ w3,w3 = w2.setCell ⟨pb,6,none⟩ (.slice (some ⟨g1,0,none⟩) (j + 1) k1):=⟨_,rfl⟩;rw [<- hw3] at HG1;have ha3 : ∀ o,(w2.setCell ⟨pb,6,none⟩ (.slice (some ⟨g1,0,none⟩) (j + 1) k1)).cell? ⟨pb,o,none⟩ = [Value.pointer (some ⟨L.s,0,none⟩),.int .i64 κ,.int .i64 t,.int .i64 n,.int .i64 e,.int .i64 l,.slice (some ⟨g1,0,none⟩) (j + 1) k1,.slice oa j oc,.slice fa j fc,.slice none 0 0,.int .i64 0,.int .i64 0][o]?:=by rw [<- hw3]; exact HG1.out.at_.cell
   have hR1 : (w2.setCell ⟨pb,6,none⟩ (.slice (some ⟨g1,0,none⟩) (j + 1) k1)).ownsRow 0 53 4 (.slice oa j oc) j ((List.replicate j blankOp).flatMap OpV.cells):=by rw [<- hw3]; exact HG1.out.o
   have HR1:=(mkH (World.ownsRow _ 0 _ _ _ _ _) <|hR1);clear hR1;go_wp2_with (at_builtin; refine wpList_push _ rfl _ _ 38 rfl 0 53 iO _ 4 48 Tryz.underlying38 hiO hzO hsO hbO rfl (by decide) _ _ _ rfl (ownsRow_alloc HR1.out _) w2.heap.size [.int .i64 0,.int .i64 0,.int .i64 0,.slice none 0 0] rfl rfl 53 (At.newAt (by simp) _ _) (by simp [Value.oneCell']) (by unfold maxLen; omega) (by omega) (by simp) ?_);intro g2 k2 w4 hown hgr hge;rw [<- hw3] at hgr;have hA4 : At w4 pb _ 42:=(Fr.grown ((Fr.refl (fun k=>(Value.slice oa j oc).ownBlock = some k) w3).alloc _) hgr (fun k hk=>.inl hk)).at HG1.out.at_ (HG1.out.at_.ne_row HG1.out.o (by decide));have HG2:=(mkH (Grown κ w1 _ pb L.s t n e l _ _ _ (j + 1) (j + 1) j) <|HG1.out.pushO hown hgr (by rcases hge with h | h; exact .inl h; exact .inr (by rw [hw3]; first | omega | (simp at h ⊢; omega))));have ha4:=hA4.cell;have hz4:=hA4.frozen;have hl4:=hA4.lt;simp only [pv] at ha4;clear hown hgr hge hA4 ha2 hz2 hl2 HG1 ha3 hw3 HR1;obtain ⟨w5,hw5⟩ : ∃ w5,w5 = w4.setCell ⟨pb,7,none⟩ (.slice (some ⟨g2,0,none⟩) (j + 1) k2):=⟨_,rfl⟩;rw [<- hw5] at HG2;have ha5 : ∀ o,(w4.setCell ⟨pb,7,none⟩ (.slice (some ⟨g2,0,none⟩) (j + 1) k2)).cell? ⟨pb,o,none⟩ = [Value.pointer (some ⟨L.s,0,none⟩),.int .i64 κ,.int .i64 t,.int .i64 n,.int .i64 e,.int .i64 l,.slice (some ⟨g1,0,none⟩) (j + 1) k1,.slice (some ⟨g2,0,none⟩) (j + 1) k2,.slice fa j fc,.slice none 0 0,.int .i64 0,.int .i64 0][o]?:=by rw [<- hw5]; exact HG2.out.at_.cell
   have HR2:=(mkH ((w4.setCell ⟨pb,7,none⟩ (.slice (some ⟨g2,0,none⟩) (j + 1) k2)).ownsRow 0 3 1 (.slice fa j fc) j (intCells (List.replicate j 0))) <|by rw [<- hw5]; exact HG2.out.f);go_wp2_with (at_builtin; refine wpList_push _ rfl _ _ 39 rfl 0 3 iI _ 1 8 Tryz.underlying39 hiI hzI hsI hbI rfl (by decide) _ _ _ rfl (ownsRow_alloc HR2.out _) w4.heap.size [.int .i64 0] rfl rfl 3 (At.newAt (by simp) _ _) (by simp [Value.oneCell']) (by unfold maxLen; omega) (by omega) (by simp) ?_);intro g3 k3 w6 hown hgr hge;rw [<- hw5] at hgr;have hA6 : At w6 pb _ 42:=(Fr.grown ((Fr.refl (fun k=>(Value.slice fa j fc).ownBlock = some k) w5).alloc _) hgr (fun k hk=>.inl hk)).at HG2.out.at_ (HG2.out.at_.ne_row HG2.out.f (by decide));have HG3:=(mkH (Grown κ w1 _ pb L.s t n e l _ _ _ (j + 1) (j + 1) (j + 1)) <|HG2.out.pushF hown hgr (by rcases hge with h | h; exact .inl h; exact .inr (by rw [hw5]; first | omega | (simp at h ⊢; omega))));have ha6:=hA6.cell;have hz6:=hA6.frozen;have hl6:=hA6.lt;simp only [pv] at ha6;clear hown hgr hge hA6 ha4 hz4 hl4 HG2 ha5 hw5 HR2;go_wp2
   go_roundw
   case rel=>exact ⟨j + 1,by omega,by go_num,_,_,_,HG3⟩
   case measure=>simp [intOf]; omega
  ·have hjt : j = t.toNat:=by omega
   have HGt:=(mkH (Grown κ w1 wr pb L.s t n e l bv ov fv t.toNat t.toNat t.toNat) <|by rw [<- hjt]; exact HG.out);clear hjt;go_wp2;go_ret;obtain ⟨own',D,h1,h2,h3,h4⟩:=HGt.out.player (own:=own) (z:=z) HK.out ⟨ht1,ht2⟩ HLm.out HX.out HL.out HF1.out.size HF1.out;exact ⟨pb,rfl,own',D,h1,h2,h3,h4⟩
end
end
section
open Go.RowKit
section
variable {own : Own} {z : Nat} {w w' : World} {pb : Nat} {D D1 : PlD} {i j : Nat} {t : PThread}
end
end
section
open Go.RowKit
section
variable {own : Own} {z : Nat} {w w' : World} {pb : Nat} {D D1 : PlD} {i j : Nat}
theorem sweep_ts (P : PSt) : P.doSweep.1.ts = P.ts:=by
 unfold PSt.doSweep;simp only;split
 ·rfl
 ·split
  ·split <;> rfl
  ·split <;> rfl
end
end
section
def shVal (ps : List (Int × Int)) (key : Int) : Int × Bool:=match ps.find? (fun p=>p.1 == key) with
 | some p=>(p.2,true)
 | none=>(0,false)
theorem shVal_hit {ps : List (Int × Int)} {key : Int} {j : Nat} {x : Int × Int} (h : ∀ p ∈ ps.take j,p.1≠key) (hx : ps[j]? = some x) (hk : x.1 = key) : shVal ps key = (x.2,true):=by
 have hj:=(List.getElem?_eq_some_iff.1 hx).1;have he : ps = ps.take j ++ x :: ps.drop (j + 1):=by
  rw [<- (List.getElem?_eq_some_iff.1 hx).2,List.getElem_cons_drop,List.take_append_drop]
 unfold shVal;rw [he,List.find?_append,List.find?_eq_none.2 (fun p hp=>by simpa using h p hp)];simp [hk]
theorem shVal_miss {ps : List (Int × Int)} {key : Int} (h : ∀ p ∈ ps,p.1≠key) : shVal ps key = (0,false):=by
 unfold shVal;rw [List.find?_eq_none.2 (fun p hp=>by simpa using h p hp)]
def own00 : Own:=fun _=>⟨0,.store⟩
end
section
theorem least_fold : ∀ (l : List (Int × Int)) (m : Int),l.foldl (fun m p=>if p.1 < m then p.1 else m) m<=m/\∀ p ∈ l,l.foldl (fun m p=>if p.1 < m then p.1 else m) m<=p.1
 | [],m=>⟨Int.le_refl _,by intro p hp; cases hp⟩
 | x :: r,m=>by
  rw [List.foldl_cons];obtain ⟨h1,h2⟩:=least_fold r (if x.1 < m then x.1 else m);have h3 : (if x.1 < m then x.1 else m)<=m/\(if x.1 < m then x.1 else m)<=x.1:=by split <;> omega
  refine ⟨by omega,?_⟩;intro p hp;rcases List.mem_cons.1 hp with rfl | hp
  ·omega
  ·exact h2 p hp
theorem great_fold : ∀ (l : List (Int × Int)) (m b : Int),m<=b->(∀ p ∈ l,p.2<=b)->m<=l.foldl (fun m p=>if p.2 > m then p.2 else m) m/\(∀ p ∈ l,p.2<=l.foldl (fun m p=>if p.2 > m then p.2 else m) m)/\l.foldl (fun m p=>if p.2 > m then p.2 else m) m<=b
 | [],m,b,hm,_=>⟨Int.le_refl _,(by intro p hp; exact nomatch hp),hm⟩
 | x :: r,m,b,hm,hb=>by
  rw [List.foldl_cons];have hx:=hb x (by simp);have h3 : m<=(if x.2 > m then x.2 else m)/\x.2<=(if x.2 > m then x.2 else m)/\(if x.2 > m then x.2 else m)<=b:=by split <;> omega
  obtain ⟨h1,h2,h4⟩:=great_fold r (if x.2 > m then x.2 else m) b h3.2.2 (fun p hp=>hb p (by simp [hp]));refine ⟨by omega,?_,h4⟩;intro p hp;rcases List.mem_cons.1 hp with rfl | hp
  ·omega
  ·exact h2 p hp
theorem hull_lists (spans ps : List (Int × Int)) (lo hi : Int) (h : ∀ p ∈ spans,lo<=p.1/\p.2<=hi) : spanLists spans (ps.filter (fun q=>isIn q.1 lo hi)) = spanLists spans ps:=by
 unfold spanLists;apply List.map_congr_left;intro p hp;rw [List.filter_filter];apply List.filter_congr;intro q _;obtain ⟨h1,h2⟩:=h p hp;unfold inSpan;by_cases hq : isIn q.1 p.1 p.2 = true
 ·have:=isIn_iff.1 hq
  rw [hq,isIn_true (by omega)]; rfl
 ·simp [hq]
theorem spansOk_mem : ∀ {l : List (Int × Int)},spansOkX l = true->∀ p ∈ l,p.2<=1099511627776
 | [],_,p,hp=>by cases hp
 | x :: r,h,p,hp=>by
  simp only [spansOkX,Bool.and_eq_true,isIn_iff] at h;rcases List.mem_cons.1 hp with rfl | hp
  ·have:=h.2.1.2; omega
  ·exact spansOk_mem h.2.2.2 p hp
theorem hull_answer {spans : List (Int × Int)} (hs : spansOkX spans = true) (ps : List (Int × Int)) (c : Int) : answerOf spans (ps.filter (fun q=>isIn q.1 (leastLo spans) (greatestHi spans))) c = answerOf spans ps c/\greatestHi spans<=1099511627776:=by
 obtain ⟨_,h2,h3⟩:=great_fold spans 0 1099511627776 (by omega) (spansOk_mem hs);have h1:=(least_fold spans (2 ^ 40)).2;refine ⟨?_,h3⟩;unfold answerOf;rw [hull_lists spans ps (leastLo spans) (greatestHi spans) (fun p hp=>⟨h1 p hp,h2 p hp⟩)]
end
section
def Srt (R : List (Int × Int)) : Prop:=R.Pairwise (fun p q=>p.1 < q.1)
theorem shVal_in {R : List (Int × Int)} (h : Srt R) {k v : Int} (hp : (k,v) ∈ R) : shVal R k = (v,true):=by
 obtain ⟨j,hj⟩:=List.mem_iff_getElem?.1 hp;refine shVal_hit ?_ hj rfl;intro p hp2 e;obtain ⟨i,hi⟩:=List.mem_iff_getElem?.1 hp2;have hlt : i < j:=by
  have:=(List.getElem?_eq_some_iff.1 hi).1
  rw [List.length_take] at this; omega
 rw [List.getElem?_take] at hi;rw [if_pos hlt] at hi;obtain ⟨hi1,hi2⟩:=List.getElem?_eq_some_iff.1 hi;obtain ⟨hj1,hj2⟩:=List.getElem?_eq_some_iff.1 hj
 have:=List.pairwise_iff_getElem.1 h i j hi1 hj1 hlt
 rw [hi2,hj2] at this;simp only at this;omega
theorem shVal_out {R : List (Int × Int)} {k : Int} (h : ∀ p ∈ R,p.1≠k) : shVal R k = (0,false):=shVal_miss h
end
section
namespace T
namespace Tr
@[grind] def rows : Tr->List (Int × Int)
 | lf _ k v=>[(k,v)]
 | nd _ _ l r=>l.rows ++ r.rows
@[grind] def size : Tr->Nat
 | lf _ _ _=>1
 | nd _ _ l r=>1 + l.size + r.size
@[grind] def ns : Tr->List Int
 | lf p _ _=>[p]
 | nd p _ l r=>p :: (l.ns ++ r.ns)
@[grind] def Su : Int->Bool->Tr->Int->Bool->Tr->Prop
 | u,b,lf p k v,x,s,w=>x = u/\s = b/\w = lf p k v
 | u,b,nd p q l r,x,s,w=>(x = u/\s = b/\w = nd p q l r)\/Su p false l x s w\/Su p true r x s w
@[grind] def len (k : Int) : Tr->Nat
 | lf _ _ _=>0
 | nd _ q l r=>1 + (if q<=k then r.len k else l.len k)
@[grind] def rem (k : Int) : Tr->Int->Nat
 | lf _ _ _,_=>0
 | nd p q l r,x=>if x = p then 1 + (if q<=k then r.len k else l.len k) else (if q<=k then r.rem k x else l.rem k x)
variable {t w : Tr} {u x y d k q v : Int} {b s : Bool}
theorem su_ed {t : Tr} : ∀ {u b},Su u b t x s w->Ed u b t x s w.pl:=by
 induction t with
 | lf=>intro u b; simp [Su,Ed]; rintro rfl rfl rfl; exact ⟨rfl,rfl,rfl⟩
 | nd p k l r h1 h2 =>
  intro u b h;rcases h with ⟨rfl,rfl,rfl⟩ | h | h
  ·exact .inl ⟨rfl,rfl,rfl⟩
  ·exact .inr (.inl (h1 h))
  ·exact .inr (.inr (h2 h))
theorem su_root (u b) (t : Tr) : Su u b t u b t:=by cases t <;> simp [Su]
theorem su_ok {t : Tr} : ∀ {u b},t.Ok->Su u b t x s w->w.Ok:=by
 induction t with
 | lf=>intro u b ho h; simp [Su] at h; rw [h.2.2]; exact ho
 | nd p k l r h1 h2 =>
  intro u b ho h;rcases h with ⟨rfl,rfl,rfl⟩ | h | h
  ·exact ho
  ·exact h1 ho.2.2.1 h
  ·exact h2 ho.2.2.2 h
theorem su_lf {t : Tr} {p : Int} : ∀ {u b},Su u b t x s (lf p k v)->t.Lea p k v:=by
 induction t with
 | lf=>intro u b h; simp [Su] at h; simp [Lea,h]
 | nd p' k' l r h1 h2 =>
  intro u b h;rcases h with ⟨_,_,h⟩ | h | h
  ·cases h
  ·exact .inl (h1 h)
  ·exact .inr (h2 h)
theorem su_nd {t l r : Tr} {p : Int} : ∀ {u b},Su u b t x s (nd p q l r)->t.Nod p q/\Su u b t p false l/\Su u b t p true r:=by
 induction t with
 | lf=>intro u b h; simp [Su] at h
 | nd p' k' l' r' h1 h2 =>
  intro u b h;rcases h with ⟨_,_,h⟩ | h | h
  ·cases h;exact ⟨.inl ⟨rfl,rfl⟩,.inr (.inl (su_root _ _ _)),.inr (.inr (su_root _ _ _))⟩
  ·obtain ⟨a1,a2,a3⟩:=h1 h;exact ⟨.inr (.inl a1),.inr (.inl a2),.inr (.inl a3)⟩
  ·obtain ⟨a1,a2,a3⟩:=h2 h;exact ⟨.inr (.inr a1),.inr (.inr a2),.inr (.inr a3)⟩
theorem mem_rows {t : Tr} : (k,v) ∈ t.rows ↔ ∃ x,t.Lea x k v:=by
 induction t with
 | lf p q w=>simp [rows,Lea]
 | nd p q l r h1 h2 =>
  simp only [rows,List.mem_append,h1,h2,Lea];constructor
  ·rintro (⟨x,h⟩ | ⟨x,h⟩)
   ·exact ⟨x,.inl h⟩
   ·exact ⟨x,.inr h⟩
  ·rintro ⟨x,h | h⟩
   ·exact .inl ⟨x,h⟩
   ·exact .inr ⟨x,h⟩
theorem rows_srt {t : Tr} (ho : t.Ok) : Srt t.rows:=by
 induction t with
 | lf=>simp [rows,Srt]
 | nd p q l r h1 h2 =>
  obtain ⟨o1,o2,o3,o4⟩:=ho;refine List.pairwise_append.2 ⟨h1 o3,h2 o4,?_⟩;rintro ⟨k1,v1⟩ m1 ⟨k2,v2⟩ m2;obtain ⟨x,e1⟩:=mem_rows.1 m1;obtain ⟨y,e2⟩:=mem_rows.1 m2
  have:=o1 _ _ _ e1
  have:=o2 _ _ _ e2
  show k1 < k2;omega
theorem rem_lt {t : Tr} : ∀ {u b},t.Dj->¬ t.Has u->t.Pth k x->t.Nod x q->Ed u b t x (decide (q<=k)) d->t.Pth k d->t.rem k d < t.rem k x:=by
 have root : ∀ w : Tr,w.Pth k w.pl->w.rem k w.pl = w.len k:=by
  intro w hw; cases w <;> simp_all [Pth,pl,rem,len]
 induction t with
 | lf=>simp [Pth]
 | nd p q' l r h1 h2 =>
  intro u b hd hu hp hn he hpd;have a1:=@ed_has; have a2:=@inn_has; have a3:=@ed_root; have a4:=@nod_has; have a5:=@pth_has; have r1:=root l; have r2:=root r;have a8:=@has_pl;by_cases hx : x = p
  ·subst hx;have hq : q = q':=nod_fn hd hn (.inl ⟨rfl,rfl⟩);subst hq;have hdx : d≠x:=fun e=>ed_ne hd hu he e.symm
   by_cases hk : q<=k
   ·have e1 : Ed x true r x true d:=by simp [hk] at he; grind
    have e2:=(ed_root (by grind) (by grind) e1).2;have e3 : r.Pth k d:=by grind
    simp only [rem,if_neg hdx,if_pos hk,if_true];rw [e2] at e3 ⊢; rw [r2 e3]; omega
   ·have e1 : Ed x false l x false d:=by simp [hk] at he; grind
    have e2:=(ed_root (by grind) (by grind) e1).2;have e3 : l.Pth k d:=by grind
    simp only [rem,if_neg hdx,if_neg hk,if_true];rw [e2] at e3 ⊢; rw [r1 e3]; omega
  ·have hdp : d≠p:=by
    rintro rfl
    have:=ed_par hd hu he (ed_pl u b _)
    have hux : x = u:=this.1;exact hu (hux ▸ pth_has hp)
   by_cases hk : q'<=k
   ·simp only [rem,if_neg hdp,if_neg hx,if_pos hk];exact @h2 p true (by grind) (by grind) (by grind) (by grind) (by grind) (by grind)
   ·simp only [rem,if_neg hdp,if_neg hx,if_neg hk];exact @h1 p false (by grind) (by grind) (by grind) (by grind) (by grind) (by grind)
theorem rem_len (t : Tr) (x : Int) : t.rem k x<=t.len k:=by
 induction t with
 | lf=>simp [rem]
 | nd p q l r h1 h2=>simp only [rem,len]; split <;> split <;> omega
theorem rem_pos {t : Tr} (h : t.Pth k x) : 1<=t.rem k x:=by
 induction t with
 | lf=>simp [Pth] at h
 | nd p q l r h1 h2 =>
  simp only [rem];split
  ·omega
  ·next hx =>
   rcases h with e | ⟨e1,e2⟩ | ⟨e1,e2⟩
   ·exact absurd e hx
   ·rw [if_pos e1]; exact h2 e2
   ·rw [if_neg (by omega)]; exact h1 e2
theorem len_size (t : Tr) : t.len k + 1<=t.size:=by
 induction t with
 | lf=>simp [len,size]
 | nd p q l r h1 h2=>simp only [len,size]; split <;> omega
theorem ns_len (t : Tr) : t.ns.length = t.size:=by
 induction t with
 | lf=>simp [ns,size]
 | nd p q l r h1 h2=>simp [ns,size,h1,h2]; omega
theorem mem_ns {t : Tr} : x ∈ t.ns ↔ t.Has x:=by
 induction t with
 | lf=>simp [ns,Has]
 | nd p q l r h1 h2=>simp [ns,Has,h1,h2]
theorem ns_nodup {t : Tr} (hd : t.Dj) : t.ns.Nodup:=by
 induction t with
 | lf=>simp [ns]
 | nd p q l r h1 h2 =>
  obtain ⟨d1,d2,d3,d4,d5⟩:=hd;simp only [ns,List.nodup_cons,List.mem_append,mem_ns];refine ⟨fun e=>e.elim d1 d2,List.nodup_append.2 ⟨h1 d4,h2 d5,?_⟩⟩;intro a ha b hb e;rw [mem_ns] at ha hb;subst e; exact d3 a ha hb
end Tr
theorem nodup_le : ∀ {l m : List Int},l.Nodup->(∀ x ∈ l,x ∈ m)->l.length<=m.length
 | [],_,_,_=>by simp
 | x :: l,m,hn,hs=>by
  obtain ⟨h1,h2⟩:=List.nodup_cons.1 hn;have hx:=hs x (by simp)
  have:=nodup_le (l:=l) (m:=m.erase x) h2 (fun y hy=>by
   refine (List.mem_erase_of_ne ?_).2 (hs y (by simp [hy]));rintro rfl; exact h1 hy)
  rw [List.length_erase_of_mem hx] at this;have : 0 < m.length:=List.length_pos_of_mem hx
  simp; omega
theorem Ver.size {M : PMem} {ts : List PThread} {t : Tr} {T : Int} (hR : Ver M ts t T) (hd : t.Dj) (hz : ¬ t.Has 0) : t.size + 1<=M.ns.length:=by
 have h1:=nodup_le (l:=0 :: t.ns) (m:=(List.range M.ns.length).map (fun (n : Nat)=>(n : Int))) (by
  refine List.nodup_cons.2 ⟨fun e=>hz (Tr.mem_ns.1 e),Tr.ns_nodup hd⟩) ?_
 ·simp only [List.length_cons,Tr.ns_len,List.length_map,List.length_range] at h1; exact h1
 ·intro x hx;rw [List.mem_map];have hin : 0<=x/\x < M.ns.length\/(x = 0/\M.ns.length = 0):=by
   rcases List.mem_cons.1 hx with rfl | hx
   ·by_cases e : M.ns.length = 0
    ·exact .inr ⟨rfl,e⟩
    ·exact .inl (by omega)
   ·left;have hh:=Tr.mem_ns.1 hx;have hu : Us M x:=by
     rcases Tr.has_or hh with ⟨q,hq⟩ | ⟨q,w,hq⟩
     ·exact (hR.a.n x q hq).1
     ·exact (hR.a.l x q w hq).1
    exact hasN_iff.1 (hasN_used hu)
  rcases hin with e | ⟨_,e⟩
  ·exact ⟨x.toNat,by simp; omega,by omega⟩
  ·exfalso;have hp:=Tr.has_pl t;have hu : Us M t.pl:=by
    rcases Tr.has_or hp with ⟨q,hq⟩ | ⟨q,w,hq⟩
    ·exact (hR.a.n _ q hq).1
    ·exact (hR.a.l _ q w hq).1
   have:=hasN_iff.1 (hasN_used hu)
   omega
end T
end
section
namespace T
def readAns (R : List (Int × Int)) (k : PWork) : BAns:=if k.kind = 3 then { stamp:=k.time,did:=(shVal R k.key).2,value:=(shVal R k.key).1 } else answerOf k.spans R k.time
def Rt (g : Gh) (T : Int) : List (Int × Int):=((g.V T).rows).filter (fun p=>decide (p.1<=1099511627776))
def Stk (tr : Tr) : List (Int × Bool)->List Tr->Prop
 | [],[]=>True
 | p :: L,w :: W=>Tr.Su 0 false tr p.1 p.2 w/\Stk tr L W
 | _,_=>False
def hull (k : PWork) (p : Int × Int) : Bool:=isIn p.1 (leastLo k.spans) (greatestHi k.spans)
def wsz (W : List Tr) : Nat:=(W.map Tr.size).sum
structure RPos (g : Gh) (t : PThread) : Prop where
 sp : t.busy = true->t.work.kind = 4->spansOkX t.work.spans = true
 no : t.busy = true->t.work.kind = 4->t.work.next<=3->t.work.noted = []
 lo : t.busy = true->t.work.kind = 3->t.work.next = 4->t.work.stand = 0\/(g.V t.work.time).Pth t.work.key t.work.stand
 sc : t.busy = true->t.work.kind = 4->t.work.next = 4->∃ W,Stk (g.V t.work.time) t.work.links W/\t.work.links≠[]/\wsz W<=(g.V t.work.time).size/\t.work.noted ++ (W.flatMap Tr.rows).filter (hull t.work) = (g.V t.work.time).rows.filter (hull t.work)
 an : t.busy = true->(t.work.kind = 3\/t.work.kind = 4)->t.work.next = 13->t.work.ans = readAns (Rt g t.work.time) t.work
def InvR (g : Gh) (P : PSt) : Prop:=∀ (i : Nat) t,P.ts[i]? = some t->RPos g t
section
variable {g g' : Gh} {M M' : PMem} {c c' T : Int} {r r' : PSweep} {i j : Nat} {t t' u : PThread} {ts ts' : List PThread} {P P' : PSt} {x d st : Int} {s : Bool} {key : Int} {k : PWork} {n : Int} {tr : Tr}
theorem Rt_srt (h : Gt (g.V T)) : Srt (Rt g T):=List.Pairwise.filter _ (Tr.rows_srt h.ok)
theorem Rt_mem (h : Gt (g.V T)) {v : Int} : (key,v) ∈ Rt g T ↔ ∃ x,(g.V T).Lea x key v/\x≠1:=by
 unfold Rt;rw [List.mem_filter,Tr.mem_rows];constructor
 ·rintro ⟨⟨x,h1⟩,h2⟩;refine ⟨x,h1,?_⟩;rintro rfl;have e1:=Tr.goal_key h.ok h1;have e2:=h.one;have e3:=Tr.goal_key h.ok e2
  -- one place,one key
  have : key = 1099511627777:=by
   have hd:=h.dj;exact lea_fn hd h1 e2
  simp at h2; omega
 ·rintro ⟨x,h1,h2⟩;exact ⟨⟨x,h1⟩,by have:=h.kr x key v h1 h2; simpa using this.2⟩
where
 lea_fn {t : Tr} (hd : t.Dj) {x q w q' w' : Int} : t.Lea x q w->t.Lea x q' w'->q = q':=by
  induction t with
  | lf=>simp [Tr.Lea]; grind
  | nd p k l r h1 h2=>have a1:=@Tr.lea_has; grind
theorem Rt_val (h : Gt (g.V T)) (hk : key<=1099511627776) : shVal (Rt g T) key = (if ((g.V T).goal key).2.1 = key then (((g.V T).goal key).2.2,true) else (0,false)):=by
 have hl:=Tr.goal_lea (k:=key) (g.V T);split
 ·next e =>
  refine shVal_in (Rt_srt h) ((Rt_mem h).2 ⟨((g.V T).goal key).1,?_,?_⟩)
  ·rw [e] at hl; exact hl
  ·intro e1;rw [e1] at hl
   have:=Rt_mem.lea_fn h.dj hl h.one
   omega
 ·next e =>
  refine shVal_out ?_;rintro ⟨k1,v1⟩ hp he;have he : k1 = key:=he;subst he;obtain ⟨x,h1,_⟩:=(Rt_mem h).1 hp
  have:=Tr.goal_key h.ok h1
  rw [this] at e; exact e rfl
theorem RPos.upd (h : t.busy = true->t.work.kind = 1\/t.work.kind = 2) : RPos g t :=
 ⟨fun b e=>by have:=h b; omega,fun b e=>by have:=h b; omega,fun b e=>by have:=h b; omega,fun b e=>by have:=h b; omega,fun b e=>by have:=h b; omega⟩
theorem RPos.at3 (h : RPos g t) (hn : t.work.next<=3) (h1 : t'.busy = t.busy) (h2 : t'.work.kind = t.work.kind) (h3 : t'.work.spans = t.work.spans) (h4 : t'.work.noted = t.work.noted) (h5 : t'.work.next<=3) : RPos g t':=by
 refine ⟨?_,?_,?_,?_,?_⟩
 ·rw [h1,h2,h3]; exact h.sp
 ·rw [h1,h2,h4]; intro b k _; exact h.no b k hn
 ·intro _ _ e; omega
 ·intro _ _ e; omega
 ·intro _ _ e; omega
theorem Stk.rows_nil {L : List (Int × Bool)} {W : List Tr} (h : Stk tr L W) (hL : L = []) : W = []:=by
 subst hL; cases W
 ·rfl
 ·exact h.elim
theorem scan_step (hP : P.kind = 1) (ha : Ag P.mem tr) (ho : tr.Ok) {x : Int} {s : Bool} {L : List (Int × Bool)} {w : Tr} {W : List Tr} (hl : k.links = (x,s) :: L) (hw : Tr.Su 0 false tr x s w) (hW : Stk tr L W) :
  ∃ W',Stk tr (P.linksWithin w.pl (leastLo k.spans) (greatestHi k.spans) ++ k.links.drop 1) W'/\wsz W' < wsz (w :: W) /\
   (if !((P.mem.node w.pl).links == 2) && isIn (P.mem.node w.pl).key (leastLo k.spans) (greatestHi k.spans) then k.noted ++ [((P.mem.node w.pl).key,(P.mem.node w.pl).value)] else k.noted) ++ (W'.flatMap Tr.rows).filter (hull k) = k.noted ++ ((w :: W).flatMap Tr.rows).filter (hull k):=by
 rw [hl];simp only [List.drop_succ_cons,List.drop_zero];have hok:=Tr.su_ok ho hw;cases w with
 | lf p q v =>
  have hle:=ha.l p q v (Tr.su_lf hw);have e1 : (P.mem.node p).links = 0:=hle.2.1;have e2 : (P.mem.node p).key = q:=hle.2.2.1;have e3 : (P.mem.node p).value = v:=hle.2.2.2;refine ⟨W,?_,?_,?_⟩
  ·unfold PSt.linksWithin;rw [if_neg (show ¬ P.kind = 0 by rw [hP]; decide)];simp only [Tr.pl,e1];simpa using hW
  ·simp [wsz,Tr.size]
  ·simp only [Tr.pl,e1,e2,e3];simp only [List.flatMap_cons,Tr.rows,List.cons_append,List.nil_append,List.filter_cons];have : hull k (q,v) = isIn q (leastLo k.spans) (greatestHi k.spans):=rfl;rw [this];cases isIn q (leastLo k.spans) (greatestHi k.spans) <;> simp
 | nd p q l r =>
  obtain ⟨hN,hsl,hsr⟩:=Tr.su_nd hw;have hn:=ha.n p q hN;have e1 : (P.mem.node p).links = 2:=hn.2.1;have e2 : (P.mem.node p).key = q:=hn.2.2;obtain ⟨o1,o2,_,_⟩:=hok;have hL : P.linksWithin p (leastLo k.spans) (greatestHi k.spans) = (if leastLo k.spans < q then [(p,false)] else []) ++ (if q<=greatestHi k.spans then [(p,true)] else []):=by
   unfold PSt.linksWithin;rw [if_neg (show ¬ P.kind = 0 by rw [hP]; decide)];simp only [e1,e2]; simp
  have fl : ¬ leastLo k.spans < q->l.rows.filter (hull k) = []:=by
   intro hh;rw [List.filter_eq_nil_iff];rintro ⟨k1,v1⟩ hm;obtain ⟨y,hy⟩:=Tr.mem_rows.1 hm
   have:=o1 _ _ _ hy
   simp only [hull];rw [isIn_false (by omega)]; simp
  have fr : ¬ q<=greatestHi k.spans->r.rows.filter (hull k) = []:=by
   intro hh;rw [List.filter_eq_nil_iff];rintro ⟨k1,v1⟩ hm;obtain ⟨y,hy⟩:=Tr.mem_rows.1 hm
   have:=o2 _ _ _ hy
   simp only [hull];rw [isIn_false (by omega)]; simp
  refine ⟨(if leastLo k.spans < q then [l] else []) ++ (if q<=greatestHi k.spans then [r] else []) ++ W,?_,?_,?_⟩
  ·show Stk tr (P.linksWithin p _ _ ++ L) _;rw [hL];by_cases h1 : leastLo k.spans < q <;> by_cases h2 : q<=greatestHi k.spans <;> simp only [h1,h2,if_true,if_false,List.nil_append,List.cons_append,List.append_nil]
   ·exact ⟨hsl,hsr,hW⟩
   ·exact ⟨hsl,hW⟩
   ·exact ⟨hsr,hW⟩
   ·exact hW
  ·by_cases h1 : leastLo k.spans < q <;> by_cases h2 : q<=greatestHi k.spans <;> simp [h1,h2,wsz,Tr.size] <;> omega
  ·have e1' : (!((P.mem.node (Tr.nd p q l r).pl).links == 2)) = false:=by simp [Tr.pl,e1]
   rw [e1'];simp only [Bool.false_and,Bool.false_eq_true,if_false,List.flatMap_append,List.flatMap_cons,Tr.rows,List.filter_append]
   congr 1
   by_cases h1 : leastLo k.spans < q <;> by_cases h2 : q<=greatestHi k.spans
   ·simp [h1,h2]
   ·rw [fr h2]; simp [h1,h2]
   ·rw [fl h1]; simp [h1,h2]
   ·rw [fl h1,fr h2]; simp [h1,h2]
end
end T
end
end Go.Proofs.YtfccelbmacjifabGreat
