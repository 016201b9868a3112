import Derived.Test.YtfccelbmacjifabGreatP0
import Derived.Test.YtfccelbmacjifabGreatP13
import Derived.Test.YtfccelbmacjifabGreatP11
import Derived.Test.YtfccelbmacjifabGreatP2
set_option linter.unusedSimpArgs false
set_option maxRecDepth 100000
set_option maxHeartbeats 4000000
namespace Go.Proofs.YtfccelbmacjifabGreat
section
open Go.RowKit
def ReadLists (w : World) (a : Option Addr) (ll : List (List (Int × Int))) : Prop:=∀ (i : Nat) l,ll[i]? = some l->∃ g b c,a = some ⟨g,0,none⟩/\w.cell? ⟨g,i,none⟩ = some (.slice b l.length c)/\PairsAt w b l
theorem ReadLists.calm {w w' : World} {a : Option Addr} {ll : List (List (Int × Int))} (h : ReadLists w a ll) (hf : Fr (fun _=>False) w w') : ReadLists w' a ll:=by
 intro i l hl;obtain ⟨g,b,c,e,c0,c1⟩:=h i l hl;exact ⟨g,b,c,e,hf.keepCell c0,c1.calm hf⟩
theorem ListsAt.read {own : Own} {z : Nat} {w : World} {a : Option Addr} {n c : Nat} {ll : List (List (Int × Int))} (h : ListsAt own z w (.slice a n c) ll) : n = ll.length/\ReadLists w a ll:=by
 obtain ⟨ins,h1,h2,h3⟩:=h.top;obtain ⟨a',c',hv⟩:=ownsShape h2.row;obtain ⟨rfl,rfl,rfl⟩ : a = a'/\n = ll.length/\c = c':=by simpa using hv
 refine ⟨rfl,?_⟩;intro i l hl;have hi : i < ll.length:=(List.getElem?_eq_some_iff.1 hl).1;have hu : ins[i]? = some ins[i]:=List.getElem?_eq_getElem (by omega);generalize ins[i] = u at hu;have hr:=h3 i u l hu hl;obtain ⟨b,d,rfl⟩:=ownsShape hr.row;obtain ⟨g,cp,hg,_⟩:=ownsRow_shape h2.row (by omega);have ho:=h2.row;rw [hg] at ho;simp at hg;exact ⟨g,b,d,hg.1,ownsRow_cell ho hu,PairsAt.ofRow hr⟩
theorem OwnLists.below {w0 w1 w : World} {v : Value} {ll : List (List (Int × Int))} (h : OwnLists w1 w v ll) (hf : Fr (fun _=>False) w0 w1) : OwnLists w0 w v ll:=by
 obtain ⟨ins,h1,h2,h3⟩:=h.top;exact ⟨h.nil,⟨ins,h1,h2,fun i u l a b=>⟨(h3 i u l a b).1,fun k hk=>Nat.le_trans hf.size ((h3 i u l a b).2 k hk)⟩⟩,fun k hk=>Nat.le_trans hf.size (h.new k hk),hf.trans h.fr⟩
theorem copyLists_calls (w : World) (a : Option Addr) (c : Nat) (ll : List (List (Int × Int))) (hl : ll.length<=2 ^ 39) (hn : ∀ l ∈ ll,l.length<=2 ^ 39) (hR : ReadLists w a ll) :
  Calls Tryz.prog 68 #[.slice a ll.length c] w fun e w'=>∃ va vn vc,e = .returned (.slice va vn vc)/\OwnLists w w' (.slice va vn vc) ll:=by
 obtain ⟨iP,hiP,hzP,hsP,hbP⟩:=info_parts Tryz.infoPr;obtain ⟨iL,hiL,hzL,hsL,hbL⟩:=info_parts Tryz.infoPs;have HR:=(mkH (ReadLists w a ll) <|hR);have HNn:=(mkH (∀ l ∈ ll,l.length<=2 ^ 39) <|hn);clear hR hn
 go_enter Tryz.func68,Tryz.ntmps68
 go_wp2
 go_loopw [3,9] (fun f i wr=>∃ k : Nat,k<=ll.length/\i = .int .i64 k/\∃ va vn vc,f = .slice va vn vc/\Hid (OwnLists w wr (.slice va vn vc) (ll.take k))) (fun _ i _=>ll.length - (intOf i).toNat)
 case atStart=>exact ⟨0,Nat.zero_le _,rfl,none,0,0,rfl,fun _=>rfl,⟨[],rfl,⟨by simp,.inl ⟨rfl,rfl⟩⟩,by intro i u l hu; simp at hu⟩,by intro k hk; simp [Value.ownBlock] at hk,Fr.refl _ _⟩
 case round =>
  obtain ⟨k,hk,rfl,va,vn,vc,rfl,HO⟩:=hrel;by_cases hlt : k < ll.length
  ·have hx : Hid (ll[k]? = some ll[k]):=List.getElem?_eq_getElem hlt;generalize ll[k] = x at hx;have hxl : x.length<=2 ^ 39:=HNn.out x (List.mem_of_getElem? hx.out);obtain ⟨g,b,d,rfl,c0,hP⟩:=(HR.out.calm HO.out.fr) k x hx.out;have HP:=(mkH (PairsAt wr b x) <|hP);have HN : Hid (ll.take (k + 1) = ll.take k ++ [x]):=by show _ = _; rw [List.take_add_one,hx.out]; rfl
   have HC:=(mkH (wr.cell? ⟨g,k,none⟩ = some (.slice b x.length d)) <|c0);clear hP;obtain ⟨wo,hwo⟩ : ∃ wo,wo = wr:=⟨_,rfl⟩;subst hwo;go_wp2
   go_loopw [5,17] (fun v j wi=>∃ q : Nat,q<=x.length/\j = .int .i64 q/\Hid (OwnPairs wo wi v (x.take q))) (fun _ j _=>x.length - (intOf j).toNat)
   case atStart=>exact ⟨0,Nat.zero_le _,rfl,⟨⟨by simp,.inl ⟨rfl,rfl⟩⟩,by intro k hk; simp [Value.ownBlock] at hk,Fr.refl _ _⟩⟩
   case round =>
    obtain ⟨q,hq,rfl,HQ⟩:=hrel;by_cases hqt : q < x.length
    ·have hy : Hid (x[q]? = some x[q]):=List.getElem?_eq_getElem hqt;generalize x[q] = y at hy;obtain ⟨g2,rfl,d0,d1⟩:=(HP.out.calm HQ.out.fr) q y hy.out;have c0:=HQ.out.fr.keepCell HC.out;have HM : Hid (x.take (q + 1) = x.take q ++ [y]):=by show _ = _; rw [List.take_add_one,hy.out]; rfl
     have hql : (x.take q).length = q:=by rw [List.length_take]; omega
     have hrow:=HQ.out.row;rw [hql] at hrow;have Hrow:=(mkH (World.ownsRow _ 0 _ _ _ _ _) <|hrow);clear hrow;go_wp2_with (at_builtin; refine wpList_push _ rfl _ _ 47 rfl 0 95 iP _ 2 16 Tryz.underlying47 hiP hzP hsP hbP rfl (by decide) _ _ _ rfl (ownsRow_alloc Hrow.out _) wr.heap.size [.int .i64 y.1,.int .i64 y.2] rfl rfl 95 (At.newAt (by simp) _ _) (by simp [Value.oneCell']) (by unfold maxLen; omega) (by omega) (by simp) ?_);intro g' cap w3 hown hgr hge;have HO3 : Hid (OwnPairs wo w3 (.slice (some ⟨g',0,none⟩) (q + 1) cap) (x.take (q + 1))):=by
      show OwnPairs _ _ _ _;rw [HM.out];refine ⟨by rw [List.length_append,hql]; simpa [pairCells] using hown,?_,Fr.grown (HQ.out.fr.alloc _) hgr (fun k hk=>.inr (HQ.out.new k hk))⟩;intro j hj;simp [Value.ownBlock] at hj;subst hj;rcases hge with h | h
      ·exact HQ.out.new _ h
      ·have:=HQ.out.fr.size; first | omega | (simp at h; omega)
     clear hown hgr hge HQ;go_wp2
     go_roundw
     case rel=>exact ⟨q + 1,by omega,by go_num,HO3⟩
     case measure=>simp [intOf]; omega
    ·have hke : q = x.length:=by omega
     subst hke;rw [List.take_length] at HQ;have hkl : (ll.take k).length = k:=by rw [List.length_take]; omega
     obtain ⟨ua,uc,hu⟩:=ownsShape HQ.out.row;subst hu;have HO1:=(mkH (OwnLists w wr _ _) <|HO.out.calm HQ.out.fr);have HSW:=(mkH (w.heap.size<=wo.heap.size) <|HO.out.fr.size);obtain ⟨ins,hi1,hi2,hi3⟩:=HO1.out.top;have HT:=(mkH (wr.ownsRow 0 47 1 (.slice va vn vc) (ll.take k).length ins) <|hi2);have HI:=(mkH (ins.length = (ll.take k).length/\_) <|⟨hi1,hi3⟩);clear hi1 hi2 hi3 c0 HO;go_wp2_with (at_builtin; refine wpList_push _ rfl _ _ 67 rfl 0 47 iL _ 1 24 Tryz.underlying67 hiL hzL hsL hbL rfl (by decide) _ _ _ rfl (ownsRow_alloc HT.out _) wr.heap.size [.slice ua x.length uc] rfl rfl 47 (At.newAt (by simp) _ _) (by simp [Value.oneCell']) (by unfold maxLen; omega) (by omega) (by simp) ?_);intro g' cap w3 hown hgr hge;have HO3:=(mkH (OwnLists w w3 (.slice (some ⟨g',0,none⟩) ((ll.take k).length + 1) cap) (ll.take k ++ [x])) <|HO1.out.push HI.out.1 HT.out HI.out.2 HQ.out.row (fun q hq=>Nat.le_trans HSW.out (HQ.out.new q hq)) rfl (by rw [hkl]; exact hown) hgr (by rcases hge with h | h; exact .inl h; exact .inr (by simpa using h)));rw [hkl] at HO3;clear hown hgr hge HO1 HT HI;go_wp2
     go_roundw
     case rel=>exact ⟨k + 1,by omega,by go_num,some ⟨g',0,none⟩,_,cap,rfl,by show OwnLists _ _ _ _; rw [HN.out]; exact HO3.out⟩
     case measure=>simp [intOf]; omega
  ·have hke : k = ll.length:=by omega
   subst hke;rw [List.take_length] at HO;go_wp2;go_ret;exact ⟨va,vn,vc,rfl,HO.out⟩
section
variable {own : Own} {z : Nat} {w : World} {L : ZLay} {P : PSt}
def PSt.answer (P : PSt) (i : Int) : BAns × Int :=
 if isIn i 0 (P.ts.length - 1) then (if (P.th i.toNat).hasEnded then ((P.th i.toNat).last,0) else ({},4)) else ({},2)
theorem ZAnswer_calls (h : ZAt own z w L P) (i : Int) (hn : (P.answer i).1.spans.length<=2 ^ 39/\∀ l ∈ (P.answer i).1.spans,l.length<=2 ^ 39) :
  Calls Tryz.prog 55 #[.pointer (some ⟨L.s,0,none⟩),.int .i64 i] w fun e w'=>∃ va vn vc,e = .returned (.tuple #[ansV (P.answer i).1 (.slice va vn vc),.int .i64 (P.answer i).2])/\OwnLists w w' (.slice va vn vc) (P.answer i).1.spans:=by
 have hF0 : Fr (fun _=>False) w (w.alloc (.cells #[.int .i64 0,.bool false,.int .i64 0,.int .i64 0,.slice none 0 0] 69)):=(Fr.refl _ _).alloc _;have H:=(mkH (ZAt own z _ L P) <|h.calm hF0);have HF0:=(mkH (Fr (fun _=>False) w _) <|hF0);have hsl0:=h.hd.lt;have H00:=(mkH (ZAt own z w L P) <|h);clear h hF0;cases hI : isIn i 0 (P.ts.length - 1)
 ·have hE : Hid (P.answer i = ({},2)):=by show _ = _; simp [PSt.answer,hI]
  rw [hE.out]
  go_enter Tryz.func55,Tryz.ntmps55
  go_wp2_with fail;refine (ZhasThread_calls H.out i).mono ?_;rintro e w' ⟨rfl,rfl⟩;rw [hI];go_wp2;exact bodyPost_ret (v:=.tuple #[ansV {} (.slice none 0 0),.int .i64 2]) (by simp [results,Tryz.results55,go_sem,ansV]) rfl ⟨none,0,0,rfl,fun _=>rfl,⟨[],rfl,⟨by simp,.inl ⟨rfl,rfl⟩⟩,by intro i u l hu; simp at hu⟩,by intro k hk; simp [Value.ownBlock] at hk,(Fr.refl _ _).alloc _⟩
 ·obtain ⟨h0,h1⟩:=isIn_iff.1 hI;obtain ⟨j,rfl⟩:=Int.eq_ofNat_of_zero_le h0;have hlt : j < P.ts.length:=by omega
  have ht : P.ts[j]? = some P.ts[j]:=List.getElem?_eq_getElem hlt;generalize P.ts[j] = t at ht;have hth : P.th j = t:=by simp [PSt.th,ht]
  obtain ⟨l,tb,cap,hl,htv,hptr⟩:=H.out.wkPtr ht;obtain ⟨ha,haz,hal,hs,hsz,hsl,n1,n2⟩:=H.out.view hl ht;have hfew:=H.out.few;have hal0:=(H00.out.wk j l t hl ht).at_.lt;have hla:=(H.out.wk j l t hl ht).llists;simp only [PThread.cells,PSt.head,htv] at ha hs;clear hl ht h0 h1 hsz haz;cases hb : t.hasEnded
  ·have hE : Hid (P.answer j = ({},4)):=by show _ = _; unfold PSt.answer; rw [hI,Int.toNat_natCast,hth,hb]; simp
   rw [hE.out];rw [hb] at ha;clear hla
   go_enter Tryz.func55,Tryz.ntmps55
   go_wp2_with fail;refine (ZhasThread_calls H.out j).mono ?_;rintro e w' ⟨rfl,rfl⟩;rw [hI];go_wp2;exact bodyPost_ret (v:=.tuple #[ansV {} (.slice none 0 0),.int .i64 4]) (by simp [results,Tryz.results55,go_sem,ansV]) rfl ⟨none,0,0,rfl,fun _=>rfl,⟨[],rfl,⟨by simp,.inl ⟨rfl,rfl⟩⟩,by intro i u l hu; simp at hu⟩,by intro k hk; simp [Value.ownBlock] at hk,(Fr.refl _ _).alloc _⟩
  ·have hE : Hid (P.answer j = (t.last,0)):=by show _ = _; unfold PSt.answer; rw [hI,Int.toNat_natCast,hth,hb]; simp
   rw [hE.out] at hn ⊢;obtain ⟨ins,q1,q2,q3⟩:=hla.top;obtain ⟨xa,xc,hlv⟩:=ownsShape q2.row;rw [hlv] at hla;have HRL:=(mkH (ReadLists _ xa t.last.spans) <|hla.read.2);have HNn:=(mkH (_/\_) <|hn);rw [hb,hlv] at ha;clear hla q1 q2 q3 hn
   go_enter Tryz.func55,Tryz.ntmps55
   go_wp2_with fail;refine (ZhasThread_calls H.out j).mono ?_;rintro e w' ⟨rfl,rfl⟩;rw [hI];go_wp2_with fail;generalize hw1 : World.alloc (World.alloc w _) _ = w1;have hF1 : Fr (fun _=>False) (w.alloc (.cells #[.int .i64 0,.bool false,.int .i64 0,.int .i64 0,.slice none 0 0] 69)) w1:=by subst hw1; exact (Fr.refl _ _).alloc _
   have hX1 : At w1 (w.heap.size + 1) [.int .i64 t.last.err,.bool t.last.did,.int .i64 t.last.value,.int .i64 t.last.stamp,.slice xa t.last.spans.length xc] 69:=by subst hw1; exact At.newAt (by simp) _ _
   have hY1 : At w1 w.heap.size [.int .i64 0,.bool false,.int .i64 0,.int .i64 0,.slice none 0 0] 69:=by subst hw1; exact (At.new w [.int .i64 0,.bool false,.int .i64 0,.int .i64 0,.slice none 0 0] 69).alloc _
   clear hw1;refine (copyLists_calls w1 xa xc t.last.spans HNn.out.1 HNn.out.2 (HRL.out.calm hF1)).mono ?_;rintro e w2 ⟨va,vn,vc,rfl,hO⟩;have HX:=(mkH (At w2 (w.heap.size + 1) _ _) <|hO.fr.at hX1 (fun h=>h));have HY:=(mkH (At w2 w.heap.size _ _) <|hO.fr.at hY1 (fun h=>h));have HFF:=(mkH (Fr (fun _=>False) w w1) <|HF0.out.trans hF1);have HO:=(mkH (OwnLists w1 w2 _ _) <|hO);clear hO hX1 hY1 hF1 ha hs;have hxc:=HX.out.cell;have hxz:=HX.out.frozen;have hyc:=HY.out.cell;have hyz:=HY.out.frozen;have hO0:=HO.out.below HFF.out;have hO1:=hO0.setOther HX.out (by decide) (by decide) (by omega) 4 (.slice va vn vc);have hB:=HY.out.setOther ⟨w.heap.size + 1,4,none⟩ (by show w.heap.size≠w.heap.size + 1; omega) (.slice va vn vc);have hA0:=hB.set 0 (.int .i64 t.last.err);have hA1:=hA0.set 1 (.bool t.last.did);have hA2:=hA1.set 2 (.int .i64 t.last.value);have hA3:=hA2.set 3 (.int .i64 t.last.stamp);have f0:=(hA3.set 4 (.slice va vn vc)).cell;have HZ:=(mkH (OwnLists w _ _ _) <|((((hO1.setOther hB (by decide) (by decide) (Nat.le_refl _) 0 (.int .i64 t.last.err)).setOther hA0 (by decide) (by decide) (Nat.le_refl _) 1 (.bool t.last.did)).setOther hA1 (by decide) (by decide) (Nat.le_refl _) 2 (.int .i64 t.last.value)).setOther hA2 (by decide) (by decide) (Nat.le_refl _) 3 (.int .i64 t.last.stamp)).setOther hA3 (by decide) (by decide) (Nat.le_refl _) 4 (.slice va vn vc));clear hO0 hO1 hB hA0 hA1 hA2 hA3;go_wp2;exact bodyPost_ret (v:=.tuple #[ansV t.last (.slice va vn vc),.int .i64 0]) (by simp [results,Tryz.results55,go_sem,ansV,f0]) rfl ⟨va,vn,vc,rfl,HZ.out⟩
end
end
section
open Go.RowKit
def freshP (k t n e l : Int) : PSt:={ kind:=k,limit:=l,clock:=0,mem:=freshMem n.toNat e.toNat,ts:=List.replicate t.toNat PThread.zero,sweep:=PSweep.zero }
def ownWk (own : Own) (z : Nat) : List Nat->Nat->Own
 | [],_=>own
 | b :: r,i=>(ownWk own z r (i + 1)).put b z (.thread i)
theorem ownWk_out (own : Own) (z : Nat) : ∀ (l : List Nat) (i k : Nat),k ∉ l->ownWk own z l i k = own k
 | [],_,_,_=>rfl
 | b :: r,i,k,h=>by
  simp only [List.mem_cons,not_or] at h;rw [ownWk,Own.put_ne _ _ _ h.1,ownWk_out own z r (i + 1) k h.2]
theorem ownWk_in (own : Own) (z : Nat) : ∀ (l : List Nat) (i j b : Nat),l.Nodup->l[j]? = some b->ownWk own z l i b = ⟨z,.thread (i + j)⟩
 | [],_,_,_,_,h=>by simp at h
 | c :: r,i,0,b,hn,h=>by simp at h; subst h; rw [ownWk,Own.put_same]; rfl
 | c :: r,i,j + 1,b,hn,h=>by
  simp only [List.getElem?_cons_succ] at h;rw [List.nodup_cons] at hn;have hne : b≠c:=by rintro rfl; exact hn.1 (List.mem_of_getElem? h)
  rw [ownWk,Own.put_ne _ _ _ hne,ownWk_in own z r (i + 1) j b hn.2 h]
  congr 2; omega
def blankWk (b : Nat) : WLay:=⟨b,.slice none 0 0,.slice none 0 0,.slice none 0 0,.slice none 0 0,.slice none 0 0,.slice none 0 0⟩
theorem ZAt.ofNew {own : Own} {z : Nat} {w w' : World} {L : XLay} {k t n e l : Int} (h : XAt w' L (freshX k t n e l)) (hnew : ∀ b,L.own b->w.heap.size<=b) (ht8 : t<=8) :
  ∃ own' L',ZAt own' z w' L' (freshP k t n e l)/\Ext own own' w/\L'.s = L.s:=by
 have n1 : L.s≠L.l.m:=h.hd.ne h.mem.hd (by decide);have n2 : L.l.nb≠L.s:=by have:=h.hd.ne_row h.mem.nodes (by decide); simpa [Value.ownBlock] using this
 have n3 : L.l.eb≠L.s:=by have:=h.hd.ne_row h.mem.ents (by decide); simpa [Value.ownBlock] using this
 have n4 : L.tb≠L.s:=by have:=h.hd.ne_row h.thr (by decide); simpa [Value.ownBlock] using this
 have n5 : L.l.nb≠L.l.m:=by have:=h.mem.hd.ne_row h.mem.nodes (by decide); simpa [Value.ownBlock] using this
 have n6 : L.l.eb≠L.l.m:=by have:=h.mem.hd.ne_row h.mem.ents (by decide); simpa [Value.ownBlock] using this
 have n7 : L.tb≠L.l.m:=by have:=h.mem.hd.ne_row h.thr (by decide); simpa [Value.ownBlock] using this
 have n8 : L.l.nb≠L.l.eb:=by have:=ownsRow_ne h.mem.nodes h.mem.ents (by decide); simpa [Value.ownBlock] using this
 have n9 : L.tb≠L.l.nb:=by have:=ownsRow_ne h.thr h.mem.nodes (by decide); simpa [Value.ownBlock] using this
 have n10 : L.tb≠L.l.eb:=by have:=ownsRow_ne h.thr h.mem.ents (by decide); simpa [Value.ownBlock] using this
 have hlen : (freshX k t n e l).ts.length = t.toNat:=by simp [freshX,freshTs_len]
 have hwt : ∀ (i : Nat) b,L.wks[i]? = some b->At w' b (VWorker.new i).cells 118:=by
  intro i b hb;have hi : i < t.toNat:=by
   have:=(List.getElem?_eq_some_iff.1 hb).1
   rw [h.len,hlen] at this; exact this
  exact h.wk i b _ hb (by simp [freshX,freshTs,hi])
 have hwk : ∀ b,b ∈ L.wks->b≠L.s/\b≠L.l.m/\b≠L.l.nb/\b≠L.l.eb/\b≠L.tb:=by
  intro b hb;obtain ⟨i,hi⟩:=List.getElem?_of_mem hb;have hA:=hwt i b hi;refine ⟨hA.ne h.hd (by decide),hA.ne h.mem.hd (by decide),?_,?_,?_⟩
  ·have:=hA.ne_row h.mem.nodes (by decide); simp [Value.ownBlock] at this; exact fun e=>this e.symm
  ·have:=hA.ne_row h.mem.ents (by decide); simp [Value.ownBlock] at this; exact fun e=>this e.symm
  ·have:=hA.ne_row h.thr (by decide); simp [Value.ownBlock] at this; exact fun e=>this e.symm
 let own' : Own:=(((((ownWk own z L.wks 0).put L.tb z .thl).put L.l.eb z (.oth 2)).put L.l.nb z (.oth 1)).put L.l.m z (.oth 0)).put L.s z .store
 have o1 : own' L.s = ⟨z,.store⟩:=Own.put_same _ _ _ _;have o2 : own' L.l.m = ⟨z,.oth 0⟩:=by show (Own.put _ _ _ _) _ = _; rw [Own.put_ne _ _ _ n1.symm,Own.put_same]
 have o3 : own' L.l.nb = ⟨z,.oth 1⟩:=by show (Own.put _ _ _ _) _ = _; rw [Own.put_ne _ _ _ n2,Own.put_ne _ _ _ n5,Own.put_same]
 have o4 : own' L.l.eb = ⟨z,.oth 2⟩:=by show (Own.put _ _ _ _) _ = _; rw [Own.put_ne _ _ _ n3,Own.put_ne _ _ _ n6,Own.put_ne _ _ _ n8.symm,Own.put_same]
 have o5 : own' L.tb = ⟨z,.thl⟩:=by show (Own.put _ _ _ _) _ = _; rw [Own.put_ne _ _ _ n4,Own.put_ne _ _ _ n7,Own.put_ne _ _ _ n9,Own.put_ne _ _ _ n10,Own.put_same]
 have o6 : ∀ (i : Nat) b,L.wks[i]? = some b->own' b = ⟨z,.thread i⟩:=by
  intro i b hb;obtain ⟨h1,h2,h3,h4,h5⟩:=hwk b (List.mem_of_getElem? hb);show (Own.put _ _ _ _) _ = _;rw [Own.put_ne _ _ _ h1,Own.put_ne _ _ _ h2,Own.put_ne _ _ _ h3,Own.put_ne _ _ _ h4,Own.put_ne _ _ _ h5,ownWk_in own z L.wks 0 i b h.apart hb,Nat.zero_add]
 have hE : Ext own own' w:=by
  intro j hj;have hno : ¬ L.own j:=fun hh=>by have:=hnew j hh; omega
  simp only [XLay.own,not_or] at hno;obtain ⟨h1,h2,h3,h4,h5,h6⟩:=hno;show (Own.put _ _ _ _) _ = _;rw [Own.put_ne _ _ _ h1,Own.put_ne _ _ _ h2,Own.put_ne _ _ _ h3,Own.put_ne _ _ _ h4,Own.put_ne _ _ _ h5,ownWk_out own z L.wks 0 j h6]
 have hpl : (freshP k t n e l).ts.length = t.toNat:=by simp [freshP]
 refine ⟨own',⟨L.s,L.l,.slice (some ⟨L.tb,0,none⟩) t.toNat L.tcap,L.wks.map blankWk,.slice none 0 0⟩,⟨?_,o1,h.mem,o2,o3,o4,?_,?_,?_,Row.nil _ _ _ _ _ _,?_⟩,hE,rfl⟩
 ·have:=h.hd
  rw [hlen] at this;exact this
 ·refine ⟨?_,?_⟩
  ·have:=h.thr
   rw [hlen] at this;rw [hpl];have e : wptrs (L.wks.map blankWk) = ptrs L.wks:=by unfold wptrs ptrs; rw [List.map_map]; rfl
   rw [e]; exact this
  ·intro j hj; simp [Value.ownBlock] at hj; subst hj; exact o5
 ·rw [List.length_map,h.len,hlen,hpl]
 ·intro i lw tw hl ht;rw [List.getElem?_map] at hl;cases hb : L.wks[i]? with
  | none=>rw [hb] at hl; simp at hl
  | some b =>
   rw [hb] at hl; simp at hl; subst hl;have htw : tw = PThread.zero:=by
    have : tw ∈ List.replicate t.toNat PThread.zero:=List.mem_of_getElem? ht;exact (List.mem_replicate.1 this).2
   subst htw;exact ⟨hwt i b hb,o6 i b hb,Row.nil _ _ _ _ _ _,Row.nil _ _ _ _ _ _,Row.nil _ _ _ _ _ _,Row.nil _ _ _ _ _ _,ListsAt.none _ _ _,ListsAt.none _ _ _⟩
 ·rw [hpl]; omega
end
section
open Go.RowKit
def pv (b : Nat) : Value:=.pointer (some ⟨b,0,none⟩)
section
variable {own : Own} {z : Nat} {w : World} {L : ZLay} {P : PSt} {N : Nat}
theorem ZStep_fit (h : ZAt own z w L P) (hf : Fit N P) (hN : N<=2 ^ 39) {i : Nat} {t : PThread} (ht : P.ts[i]? = some t) (hb : t.busy = true) :
  Calls Tryz.prog 54 #[.pointer (some ⟨L.s,0,none⟩),.int .i64 i] w fun e w'=>e = .returned (.tuple #[.int .i64 (P.step i t).2,.int .i64 0])/\ZGoes own z w L (P.step i t).1 w':=by
 have hT:=(hf.th i t ht).1 hb;have hc:=hf.clk;by_cases hk : t.work.kind = 1\/t.work.kind = 2
 ·exact ZStep_busy h ht hb ⟨hf.kind,hT.made.1,hT.locks,hc.1,hf.lim⟩ hT.nx hk
 ·have hk' : t.work.kind = 3\/t.work.kind = 4:=by have:=hT.kd; omega
  refine ZStep_read h hf.kind ht hb hT.nx hk' (fun h4 _=>⟨Nat.le_trans (hT.links h4) (Nat.succ_le_succ hN),hT.spans h4,Nat.le_trans hT.noted hN⟩)
theorem Fit.answer (hf : Fit N P) (i : Int) : SmallAns (P.answer i).1:=by
 unfold PSt.answer;split
 ·next hI =>
  have hb:=isIn_iff.1 hI;split
  ·obtain ⟨j,rfl⟩:=Int.eq_ofNat_of_zero_le hb.1;have hj : j < P.ts.length:=by omega
   exact (hf.th j _ (show P.ts[j]? = some (P.th j) by simp [PSt.th,List.getElem?_eq_getElem hj])).2
  ·exact SmallAns.zero rfl
 ·exact SmallAns.zero rfl
theorem ZAnswer_fit (h : ZAt own z w L P) (hf : Fit N P) (i : Int) :
  Calls Tryz.prog 55 #[.pointer (some ⟨L.s,0,none⟩),.int .i64 i] w fun e w'=>∃ va vn vc,e = .returned (.tuple #[ansV (P.answer i).1 (.slice va vn vc),.int .i64 (P.answer i).2])/\OwnLists w w' (.slice va vn vc) (P.answer i).1.spans:=by
 have hs:=hf.answer i;exact ZAnswer_calls h i ⟨by have:=hs.1; omega,fun l hl=>by have:=hs.2 l hl; omega⟩
theorem ZSweep_fit (h : ZAt own z w L P) (hf : Fit N P) :
  Calls Tryz.prog 42 #[.pointer (some ⟨L.s,0,none⟩)] w fun e w'=>e = .returned (.int .i64 P.doSweep.2)/\ZGoes own z w L P.doSweep.1 w' :=
 ZSweep_calls h (by have:=hf.swp; have:=hf.thr; omega) (by have:=hf.swp; omega)
end
theorem samePairs_eq (w : World) (a b : Option Addr) (ca cb : Nat) (ps : List (Int × Int)) (ha : PairsAt w a ps) (hb : PairsAt w b ps) (hsm : ps.length<=2 ^ 40) :
  Calls Tryz.prog 57 #[.slice a ps.length ca,.slice b ps.length cb] w fun r w'=>r = .returned (.bool true)/\Fr (fun _=>False) w w':=by
 have HA:=(mkH (PairsAt w a ps) <|ha);have HB:=(mkH (PairsAt w b ps) <|hb);have hnn : ((ps.length : Int) != (ps.length : Int)) = false:=by simp
 clear ha hb
 go_enter Tryz.func57,Tryz.ntmps57
 go_wp2
 go_loopw [5] (fun v wr=>∃ j : Nat,j<=ps.length/\v = .int .i64 j/\Hid (Fr (fun _=>False) w wr)) (fun v _=>ps.length - (intOf v).toNat)
 case atStart=>exact ⟨0,by omega,rfl,Fr.refl _ _⟩
 case round =>
  obtain ⟨j,hj,rfl,HF⟩:=hrel;by_cases hlt : j < ps.length
  ·have hp : ps[j]? = some ps[j]:=List.getElem?_eq_getElem _;generalize ps[j] = p at hp;obtain ⟨ga,rfl,a1,a2⟩:=HA.out j p hp;obtain ⟨gb,rfl,b1,b2⟩:=HB.out j p hp;have a1:=HF.out.keepCell a1;have a2:=HF.out.keepCell a2;have b1:=HF.out.keepCell b1;have b2:=HF.out.keepCell b2;obtain ⟨p1,p2⟩:=p;simp only at a1 a2 b1 b2;clear hp;go_wp2_with fail;go_region;go_wp2
   go_roundw
   case rel=>exact ⟨j + 1,by omega,by go_num,by show Fr _ _ _; repeat (with_reducible first | refine Fr.drewN ?_ _ | refine Fr.drew ?_ | exact HF.out)⟩
   case measure=>simp [intOf]; omega
  ·go_wp2;go_ret;exact ⟨rfl,HF.out⟩
theorem run_nil_some {P : Program} (w : World) {t e : TypeId} (ht : P.underlying t = some (.slice e)) (a : Addr) (n c : Nat) : (binOp .eql t (.slice (some a) n c) (.slice none 0 0)).run P w = .ok (.bool false) w:=by
 simpa using Go.Lib.run_eql_slice_nil (P:=P) w t e (some a) n c 0 0 ht
theorem sameAnswers_lists (a : BAns) (w : World) (ga gb : Addr) (ca cb : Nat) (hl : a.spans.length<=2 ^ 39) (hn : ∀ l ∈ a.spans,l.length<=2 ^ 39) (ha : ReadLists w (some ga) a.spans) (hb : ReadLists w (some gb) a.spans) :
  Calls Tryz.prog 38 #[ansV a (.slice (some ga) a.spans.length ca),ansV a (.slice (some gb) a.spans.length cb)] w fun e w'=>e = .returned (.bool true)/\Fr (fun _=>False) w w':=by
 obtain ⟨er,di,va,st,sp⟩:=a;simp only [ansV] at hl hn ha hb ⊢;have h1 : (er != er) = false:=by simp
 have h2 : (di != di) = false:=by simp
 have h3 : (va != va) = false:=by simp
 have h4 : (st != st) = false:=by simp
 have h6 : ((sp.length : Int) != (sp.length : Int)) = false:=by simp
 have h5 : ∀ w',(binOp .eql 67 (.slice (some ga) sp.length ca) (.slice none 0 0)).run Tryz.prog w' = .ok (.bool false) w':=fun w'=>run_nil_some w' Tryz.underlying67 _ _ _
 have h7 : ∀ w',(binOp .eql 67 (.slice (some gb) sp.length cb) (.slice none 0 0)).run Tryz.prog w' = .ok (.bool false) w':=fun w'=>run_nil_some w' Tryz.underlying67 _ _ _
 have HA:=(mkH (ReadLists w (some ga) sp) <|ha);have HB:=(mkH (ReadLists w (some gb) sp) <|hb);have HN:=(mkH (∀ l ∈ sp,l.length<=2 ^ 39) <|hn);clear ha hb hn
 go_enter Tryz.func38,Tryz.ntmps38
 go_wp2_with fail;obtain ⟨wx,hwx⟩ : ∃ wx,wx = (w.alloc (.cells #[.int .i64 er,.bool di,.int .i64 va,.int .i64 st,.slice (some ga) sp.length ca] 69)).alloc (.cells #[.int .i64 er,.bool di,.int .i64 va,.int .i64 st,.slice (some gb) sp.length cb] 69):=⟨_,rfl⟩;have HFx:=(mkH (Fr (fun _=>False) w wx) <|by rw [hwx]; exact ((Fr.refl _ _).alloc _).alloc _);have HX:=(mkH (At wx w.heap.size [.int .i64 er,.bool di,.int .i64 va,.int .i64 st,.slice (some ga) sp.length ca] 69) <|by rw [hwx]; exact (At.new w _ _).alloc _);have HY:=(mkH (At wx (w.heap.size + 1) [.int .i64 er,.bool di,.int .i64 va,.int .i64 st,.slice (some gb) sp.length cb] 69) <|by rw [hwx]; exact At.newAt (by simp) _ _);rw [<- hwx];clear hwx
 go_loopw [5] (fun v wr=>∃ j : Nat,j<=sp.length/\v = .int .i64 j/\Hid (Fr (fun _=>False) wx wr)) (fun v _=>sp.length - (intOf v).toNat)
 case atStart=>exact ⟨0,by omega,rfl,Fr.refl _ _⟩
 case round =>
  obtain ⟨j,hj,rfl,HF⟩:=hrel;have HXr:=(mkH (At wr w.heap.size _ 69) <|HF.out.at HX.out (fun h=>h));have HYr:=(mkH (At wr (w.heap.size + 1) _ 69) <|HF.out.at HY.out (fun h=>h));have hxc:=HXr.out.cell;have hyc:=HYr.out.cell;by_cases hlt : j < sp.length
  ·have hp : sp[j]? = some sp[j]:=List.getElem?_eq_getElem _;have hpl:=HN.out _ (List.getElem_mem hlt);generalize sp[j] = p at hp hpl;obtain ⟨ha,b1,c1,e1,a1,P1⟩:=HA.out j p hp;obtain ⟨hb,b2,c2,e2,a2,P2⟩:=HB.out j p hp;obtain rfl:=Option.some.inj e1;obtain rfl:=Option.some.inj e2;have HFw:=(mkH (Fr (fun _=>False) w wr) <|HFx.out.trans HF.out);have a1:=HFw.out.keepCell a1;have a2:=HFw.out.keepCell a2;have HP1:=(mkH (PairsAt wr b1 p) <|P1.calm HFw.out);have HP2:=(mkH (PairsAt wr b2 p) <|P2.calm HFw.out);clear hp P1 P2 e1 e2;go_wp2_with fail;refine wp_region_calm [10] 0 rfl (by kernel_rfl) (by kernel_rfl) (by kernel_rfl) (by decide) (by kernel_rfl) (by decide) ?_;intro U W hU hW;have hau : ∀ u o,(W u).cell? ⟨w.heap.size,o,none⟩ = [Value.int .i64 er,.bool di,.int .i64 va,.int .i64 st,.slice (some ⟨ha,0,none⟩) sp.length ca][o]?:=fun u=>((hW u).at HXr.out (fun h=>h)).cell
   have hbu : ∀ u o,(W u).cell? ⟨w.heap.size + 1,o,none⟩ = [Value.int .i64 er,.bool di,.int .i64 va,.int .i64 st,.slice (some ⟨hb,0,none⟩) sp.length cb][o]?:=fun u=>((hW u).at HYr.out (fun h=>h)).cell
   have d1 : ∀ u,(W u).cell? ⟨ha,j,none⟩ = some (.slice b1 p.length c1):=fun u=>(hW u).keepCell a1
   have d2 : ∀ u,(W u).cell? ⟨hb,j,none⟩ = some (.slice b2 p.length c2):=fun u=>(hW u).keepCell a2
   clear hW hxc hyc a1 a2
   repeat (refine mix_read rfl rfl ?_; go_big_quiet_step (fail); refine wpQuiet_nil ?_)
   refine mix_effC (.bool true) rfl rfl rfl ?_ ?_
   ·intro w' hw';go_simp;refine (samePairs_eq w' b1 b2 c1 c2 p (HP1.out.calm hw') (HP2.out.calm hw') (by omega)).mono ?_;rintro e w'' ⟨rfl,hF⟩;exact ⟨rfl,hw'.trans hF⟩
   go_simp
   repeat (refine mix_read rfl rfl ?_; go_big_quiet_step (fail); refine wpQuiet_nil ?_)
   refine mix_nil ?_;intro w2 hw2;have HF2:=(mkH (Fr (fun _=>False) wx w2) <|HF.out.trans hw2);clear hau hbu d1 d2 hw2;go_wp2
   go_roundw
   case rel=>exact ⟨j + 1,by omega,by go_num,HF2⟩
   case measure=>simp [intOf]; omega
  ·go_wp2;go_ret;exact ⟨rfl,HFx.out.trans HF.out⟩
theorem run_nil_nil {P : Program} (w : World) {t e : TypeId} (ht : P.underlying t = some (.slice e)) : (binOp .eql t (.slice none 0 0) (.slice none 0 0)).run P w = .ok (.bool true) w:=by
 simpa using Go.Lib.run_eql_slice_nil (P:=P) w t e none 0 0 0 0 ht
theorem sameAnswers_nil (a : BAns) (w : World) :
  Calls Tryz.prog 38 #[ansV a (.slice none 0 0),ansV a (.slice none 0 0)] w fun e w'=>e = .returned (.bool true)/\Fr (fun _=>False) w w':=by
 obtain ⟨er,di,va,st,sp⟩:=a;simp only [ansV];have h1 : (er != er) = false:=by simp
 have h2 : (di != di) = false:=by simp
 have h3 : (va != va) = false:=by simp
 have h4 : (st != st) = false:=by simp
 have h5 : ∀ w',(binOp .eql 67 (.slice none 0 0) (.slice none 0 0)).run Tryz.prog w' = .ok (.bool true) w':=fun w'=>run_nil_nil w' Tryz.underlying67
 go_enter Tryz.func38,Tryz.ntmps38
 go_wp2_with fail;refine wp_loop_rounds 1 ?_;rw [rounds_succ];go_wp2;go_ret;exact ⟨rfl,((Fr.refl _ _).alloc _).alloc _⟩
theorem sameAnswers_eq (a : BAns) (w : World) (xa ya : Option Addr) (xn yn xc yc : Nat) (hs : SmallAns a) (hx : a.spans = []->Value.slice xa xn xc = .slice none 0 0) (hy : a.spans = []->Value.slice ya yn yc = .slice none 0 0) (h1 : xn = a.spans.length/\ReadLists w xa a.spans) (h2 : yn = a.spans.length/\ReadLists w ya a.spans) :
  Calls Tryz.prog 38 #[ansV a (.slice xa xn xc),ansV a (.slice ya yn yc)] w fun e w'=>e = .returned (.bool true)/\Fr (fun _=>False) w w':=by
 obtain ⟨rfl,h1⟩:=h1;obtain ⟨rfl,h2⟩:=h2;by_cases h0 : a.spans = []
 ·rw [hx h0,hy h0];exact sameAnswers_nil a w
 ·obtain ⟨l,r,hl⟩ : ∃ l r,a.spans = l :: r:=by
   cases h : a.spans with
   | nil=>exact absurd h h0
   | cons l r=>exact ⟨l,r,rfl⟩
  obtain ⟨g,b,c,rfl,_,_⟩:=h1 0 l (by rw [hl]; rfl);obtain ⟨g',b',c',rfl,_,_⟩:=h2 0 l (by rw [hl]; rfl);exact sameAnswers_lists a w _ _ _ _ (by have:=hs.1; omega) (fun l hl=>by have:=hs.2 l hl; omega) h1 h2
end
section
open Go.RowKit
structure OpV where
 kind : Int
 key : Int
 value : Int
 spans : List (Int × Int)
 sv : Value
def OpV.cells (o : OpV) : List Value:=[.int .i64 o.kind,.int .i64 o.key,.int .i64 o.value,o.sv]
structure DeedV where
 op : OpV
 a : BAns
 av : Value
 frm : Int
def DeedV.cells (d : DeedV) : List Value:=[.int .i64 d.op.kind,.int .i64 d.op.key,.int .i64 d.op.value,d.op.sv,.int .i64 d.a.err,.bool d.a.did,.int .i64 d.a.value,.int .i64 d.a.stamp,d.av,.int .i64 d.frm]
theorem opv_len (o : OpV) : o.cells.length = 4:=rfl
def boolCells (l : List Bool) : List Value:=l.map .bool
def OpOk (own : Own) (z : Nat) (w : World) (o : OpV) : Prop:=Row own z w (.oth 5) 81 2 o.sv o.spans.length (o.spans.flatMap pairCells)
def DeedOk (own : Own) (z : Nat) (w : World) (d : DeedV) : Prop:=OpOk own z w d.op/\ListsAt own z w d.av d.a.spans/\SmallAns d.a
structure PlD where
 L : ZLay
 P : PSt
 N : Nat
 k : Int
 t : Int
 n : Int
 e : Int
 l : Int
 bv : Value
 ov : Value
 fv : Value
 dv : Value
 bs : List Bool
 ops : List OpV
 frm : List Int
 deeds : List DeedV
 puts : Int
 takes : Int
def PlD.ok (D : PlD) : Prop:=D.bs = D.P.ts.map (·.busy)
def PlD.cells (D : PlD) : List Value :=
 [pv D.L.s,.int .i64 D.k,.int .i64 D.t,.int .i64 D.n,.int .i64 D.e,.int .i64 D.l,D.bv,D.ov,D.fv,D.dv,.int .i64 D.puts,.int .i64 D.takes]
structure PlAt (own : Own) (z : Nat) (w : World) (pb : Nat) (D : PlD) : Prop where
 at_ : At w pb D.cells 42
 tg : own pb = ⟨z + 1,.store⟩
 st : ZAt own z w D.L D.P
 fit : Fit D.N D.P
 thr : D.t = D.P.ts.length
 busy : Row own (z + 1) w (.oth 1) 4 1 D.bv D.P.ts.length (boolCells D.bs)
 bl : D.bs.length = D.P.ts.length
 ops : Row own (z + 1) w (.oth 2) 53 4 D.ov D.P.ts.length (D.ops.flatMap OpV.cells)
 ol : D.ops.length = D.P.ts.length
 frm : Row own (z + 1) w (.oth 3) 3 1 D.fv D.P.ts.length (intCells D.frm)
 fl : D.frm.length = D.P.ts.length
 deeds : Row own (z + 1) w (.oth 4) 75 10 D.dv D.deeds.length (D.deeds.flatMap DeedV.cells)
 opk : ∀ o ∈ D.ops,OpOk own (z + 1) w o
 dok : ∀ d ∈ D.deeds,DeedOk own (z + 1) w d
section
variable {own own' : Own} {z : Nat} {w w' : World} {pb : Nat} {D : PlD} {S : Nat->Prop}
theorem OpOk.fr {o : OpV} (h : OpOk own z w o) (hf : Fr S w w') (he : Ext own own' w) (hS : ∀ k,own k = ⟨z,.oth 5⟩->¬ S k) : OpOk own' z w' o:=Row.fr h hf he hS
theorem DeedOk.fr {d : DeedV} (h : DeedOk own z w d) (hf : Fr S w w') (he : Ext own own' w) (h5 : ∀ k,own k = ⟨z,.oth 5⟩->¬ S k) (hl : ∀ k,own k = ⟨z,.lists⟩->¬ S k) : DeedOk own' z w' d:=⟨h.1.fr hf he h5,h.2.1.fr hf he hl,h.2.2⟩
theorem PlAt.fr (h : PlAt own z w pb D) (hf : Fr S w w') (he : Ext own own' w) (hS : ∀ k,(own k).z = z\/(own k).z = z + 1->¬ S k) : PlAt own' z w' pb D:=by
 have hT : ∀ tag k,own k = ⟨z + 1,tag⟩->¬ S k:=fun tag k hk=>hS k (.inr (by rw [hk]))
 exact ⟨(at_fr h.at_ h.tg hf he (hT _)).1,(at_fr h.at_ h.tg hf he (hT _)).2,h.st.fr hf he (fun k hk=>hS k (.inl hk)),h.fit,h.thr,h.busy.fr hf he (hT _),h.bl,h.ops.fr hf he (hT _),h.ol,h.frm.fr hf he (hT _),h.fl,h.deeds.fr hf he (hT _),fun o ho=>(h.opk o ho).fr hf he (hT _),fun d hd=>(h.dok d hd).fr hf he (hT _) (hT _)⟩
theorem PlAt.calm (h : PlAt own z w pb D) (hf : Fr (fun _=>False) w w') : PlAt own z w' pb D:=h.fr hf (Ext.refl _ _) (fun _ _ h=>h)
def FrP (own : Own) (z : Nat) (w w' : World) : Prop:=Fr (fun k=>(own k).z = z\/((own k).z = z + 1/\own k≠⟨z + 1,.oth 5⟩)) w w'
theorem FrP.trans {own1 : Own} {w1 w2 : World} (h : FrP own z w w1) (he : Ext own own1 w) (k : FrP own1 z w1 w2) : FrP own z w w2 :=
 Fr.transNew h k (fun i hi=>by
  by_cases hlt : i < w.heap.size
  ·left; rw [<- he i hlt]; exact hi
  ·right; omega)
def PlGoes (own : Own) (z : Nat) (w : World) (pb : Nat) (w' : World) (Q : PlD->Prop) : Prop:=∃ own' D',PlAt own' z w' pb D'/\Ext own own' w/\FrP own z w w'/\Q D'
theorem PlGoes.trans {own1 : Own} {w1 w2 : World} {Q : PlD->Prop} (he : Ext own own1 w) (hf : FrP own z w w1) (h : PlGoes own1 z w1 pb w2 Q) : PlGoes own z w pb w2 Q:=by
 obtain ⟨own2,D2,h1,h2,h3,h4⟩:=h;exact ⟨own2,D2,h1,Ext.trans he h2 hf.size,FrP.trans hf he h3,h4⟩
theorem PlAt.store (h : PlAt own z w pb D) {P' : PSt} (hg : ZGoes own z w D.L P' w') {N' : Nat} (hfit : Fit N' P') (hl : P'.ts.length = D.P.ts.length) :
  ∃ own' L',PlAt own' z w' pb { D with L:=L',P:=P',N:=N' }/\Ext own own' w/\FrP own z w w'/\L'.s = D.L.s:=by
 obtain ⟨own',L',hZ,hE,hF,e1,e2,e3⟩:=hg;have hT : ∀ tag k,own k = ⟨z + 1,tag⟩->¬ (own k).z = z:=fun tag k hk h=>by rw [hk] at h; simp at h
 have hA:=at_fr h.at_ h.tg hF hE (hT _);refine ⟨own',L',⟨?_,hA.2,hZ,hfit,by rw [hl]; exact h.thr,?_,by rw [hl]; exact h.bl,?_,by rw [hl]; exact h.ol,?_,by rw [hl]; exact h.fl,h.deeds.fr hF hE (hT _),fun o ho=>(h.opk o ho).fr hF hE (hT _),fun d hd=>(h.dok d hd).fr hF hE (hT _) (hT _)⟩,hE,Fr.mono hF (fun k _ h=>.inl h),e1⟩
 ·have:=hA.1
  simp only [PlD.cells,e1] at this ⊢;exact this
 ·rw [hl]; exact h.busy.fr hF hE (hT _)
 ·rw [hl]; exact h.ops.fr hF hE (hT _)
 ·rw [hl]; exact h.frm.fr hF hE (hT _)
theorem bool_get {l : List Bool} {i : Nat} {b : Bool} (h : l[i]? = some b) : (boolCells l)[i]? = some (.bool b):=by simp [boolCells,h]
theorem int_get {l : List Int} {i : Nat} {b : Int} (h : l[i]? = some b) : (intCells l)[i]? = some (.int .i64 b):=by simp [intCells,h]
theorem PlAt.busyRow (h : PlAt own z w pb D) {i : Nat} {b : Bool} (hb : D.bs[i]? = some b) : ∃ g c,D.bv = .slice (some ⟨g,0,none⟩) D.P.ts.length c/\w.cell? ⟨g,i,none⟩ = some (.bool b)/\(∀ o,w.frozen? ⟨g,o,none⟩ = false)/\own g = ⟨z + 1,.oth 1⟩/\g < w.heap.size:=by
 have hi:=(List.getElem?_eq_some_iff.1 hb).1;rw [h.bl] at hi;obtain ⟨g,c,hv,_⟩:=ownsRow_shape h.busy.row (by omega);have ho:=h.busy.row;rw [hv] at ho;exact ⟨g,c,hv,ownsRow_cell ho (bool_get hb),ownsRow_frozen ho,h.busy.tg g (by rw [hv]; rfl),ownsRow_lt0 ho⟩
theorem PlAt.setBusy (h : PlAt own z w pb D) {g c i : Nat} (hv : D.bv = .slice (some ⟨g,0,none⟩) D.P.ts.length c) (b : Bool) : PlAt own z (w.setCell ⟨g,i,none⟩ (.bool b)) pb { D with bs:=D.bs.set i b }/\FrP own z w (w.setCell ⟨g,i,none⟩ (.bool b)):=by
 have hg:=h.busy.tg g (by rw [hv]; rfl);have hf : Fr (fun k=>k = g) w (w.setCell ⟨g,i,none⟩ (.bool b)):=(Fr.refl _ _).set1 i (.bool b);have he:=Ext.refl own w;have hT : ∀ zz tag k,(zz,tag)≠(z + 1,Tag.oth 1)->own k = ⟨zz,tag⟩->¬ k = g:=by
  rintro zz tag k hne hk rfl;rw [hg] at hk;simp at hk;exact hne (by rw [hk.1,hk.2])
 have hZ : ∀ k,(own k).z = z->¬ k = g:=by rintro k hk rfl; rw [hg] at hk; simp at hk
 refine ⟨⟨(at_fr h.at_ h.tg hf he (fun k hk=>hT _ _ k (by simp) hk)).1,h.tg,h.st.fr hf he hZ,h.fit,h.thr,⟨?_,h.busy.tg⟩,by simpa using h.bl,h.ops.fr hf he (fun k hk=>hT _ _ k (by simp) hk),h.ol,h.frm.fr hf he (fun k hk=>hT _ _ k (by simp) hk),h.fl,h.deeds.fr hf he (fun k hk=>hT _ _ k (by simp) hk),
  fun o ho=>(h.opk o ho).fr hf he (fun k hk=>hT _ _ k (by simp) hk),fun d hd=>(h.dok d hd).fr hf he (fun k hk=>hT _ _ k (by simp) hk) (fun k hk=>hT _ _ k (by simp) hk)⟩,Fr.mono hf (by rintro k _ rfl; rw [hg]; exact .inr ⟨rfl,by simp⟩)⟩
 have ho:=h.busy.row;rw [hv] at ho
 have:=ownsRow_set ho i (.bool b)
 simp only [hv];rw [show boolCells (D.bs.set i b) = (boolCells D.bs).set i (.bool b) by simp [boolCells,List.map_set]];exact this
end
end
section
open Go.RowKit
theorem step_three {P : PSt} {i : Nat} {t : PThread} (h : (P.step i t).2 = 3) : P.step i t = (P.setT i t.leave,3):=by
 unfold PSt.step at h ⊢;split at h
 ·cases h
 ·cases h
 ·cases h
 ·rfl
 ·split at h
  ·unfold PSt.read at h;simp only at h;split at h <;> cases h
  ·unfold PSt.update at h;split at h
   ·cases h
   ·unfold PSt.lock at h;split at h
    ·split at h <;> cases h
    ·cases h
   all_goals cases h
theorem leave_answer {P : PSt} {i : Nat} {t : PThread} (ht : P.ts[i]? = some t) : (P.setT i t.leave).answer i = (t.work.ans,0):=by
 have hi:=(List.getElem?_eq_some_iff.1 ht).1;unfold PSt.answer;rw [isIn_true (by simp [PSt.setT]; omega)];simp [PSt.th,PSt.setT,hi,PThread.leave]
structure Stepped (D : PlD) (i : Nat) (t : PThread) (D' : PlD) : Prop where
 P : D'.P = (D.P.step i t).1
 N : D'.N = D.N + 1
 cfg : D'.k = D.k/\D'.t = D.t/\D'.n = D.n/\D'.e = D.e/\D'.l = D.l
 ops : D'.ops = D.ops
 frm : D'.frm = D.frm
 cnt : D'.puts = D.puts/\D'.takes = D.takes
 bs : D'.bs = if (D.P.step i t).2 = 3 then D.bs.set i false else D.bs
 deeds : ((D.P.step i t).2≠3->D'.deeds = D.deeds)/\((D.P.step i t).2 = 3->∃ av o f,D.ops[i]? = some o/\D.frm[i]? = some f/\D'.deeds = D.deeds ++ [⟨o,t.work.ans,av,f⟩])
section
variable {own own' : Own} {z : Nat} {w w' : World} {pb : Nat} {D : PlD} {S : Nat->Prop} {i : Nat} {t : PThread}
theorem Psteps_idle (h : PlAt own z w pb D) (hb : D.bs[i]? = some false) (ht : D.P.ts[i]? = some t) (htb : t.busy = false) :
  Calls Tryz.prog 35 #[pv pb,.int .i64 i] w fun r w'=>r = .returned (.tuple #[.int .i64 0,.bool true])/\w' = w:=by
 obtain ⟨g,c,hv,hc,hz,hg,hgl⟩:=h.busyRow hb;have ha:=h.at_.cell;have hi:=(List.getElem?_eq_some_iff.1 ht).1;have hfew:=h.fit.thr;simp only [PlD.cells,hv,pv] at ha;have H:=(mkH (PlAt own z w pb D) <|h);have HT:=(mkH (D.P.ts[i]? = some t/\t.busy = false) <|⟨ht,htb⟩);clear h ht htb hb hv;unfold pv
 go_enter Tryz.func35,Tryz.ntmps35
 go_wp2_with fail;refine (ZStep_idle H.out.st HT.out.1 HT.out.2).mono ?_;rintro e w' ⟨rfl,rfl⟩;go_wp2;go_ret2;exact ⟨rfl,rfl⟩
theorem Psteps_on (h : PlAt own z w pb D) (hb : D.bs[i]? = some true) (ht : D.P.ts[i]? = some t) (htb : t.busy = true) (hN : D.N < 2 ^ 39) (h3 : (D.P.step i t).2≠3) :
  Calls Tryz.prog 35 #[pv pb,.int .i64 i] w fun r w'=>r = .returned (.tuple #[.int .i64 (D.P.step i t).2,.bool true])/\PlGoes own z w pb w' (Stepped D i t):=by
 have ha:=h.at_.cell;have hi:=(List.getElem?_eq_some_iff.1 ht).1;have hfew:=h.fit.thr;simp only [PlD.cells,pv] at ha;have H:=(mkH (PlAt own z w pb D) <|h);have hT:=h.fit.turn ht htb;have HS:=(mkH (Calls _ _ _ _ _) <|ZStep_fit h.st h.fit (by omega) ht htb);have HF:=(mkH (Fit (D.N + 1) (D.P.step i t).1) <|h.fit.step ht htb);have HL:=(mkH ((D.P.step i t).1.ts.length = D.P.ts.length) <|by
  obtain ⟨M,c,t',e,_⟩:=hT.to;show _ = _;rw [e]; simp)
 have HQ:=(mkH (∀ L',Stepped D i t { D with L:=L',P:=(D.P.step i t).1,N:=D.N + 1 }) <|fun L'=>⟨rfl,rfl,⟨rfl,rfl,rfl,rfl,rfl⟩,rfl,rfl,⟨rfl,rfl⟩,by rw [if_neg h3],⟨fun _=>rfl,fun hh=>absurd hh h3⟩⟩);have hh1:=hT.how;have HB:=(mkH (D.bs[i]? = some true) <|hb);obtain ⟨hw,hhw⟩ : ∃ hw,hw = (D.P.step i t).2:=⟨_,rfl⟩;rw [<- hhw] at h3 hh1 HS ⊢;have HHW:=(mkH (hw = _) <|hhw);obtain ⟨q1,q2⟩:=hh1;clear h ht htb hT hb hhw;unfold pv
 go_enter Tryz.func35,Tryz.ntmps35
 go_wp2_with fail;refine Calls.mono HS.out ?_;rintro e w1 ⟨rfl,hG⟩;obtain ⟨own1,L1,hP1,hE1,hF1,e1⟩:=H.out.store hG HF.out HL.out;obtain ⟨g,c,hv,hc,hz,hg,hgl⟩:=hP1.busyRow HB.out;have hv' : D.bv = .slice (some ⟨g,0,none⟩) D.P.ts.length c:=by rw [<- HL.out]; exact hv
 have ha:=hP1.at_.cell;simp only [PlD.cells,hv',pv] at ha;have HG:=(mkH (PlGoes own z w pb w1 (Stepped D i t)) <|⟨own1,_,hP1,hE1,hF1,HQ.out L1⟩);clear hG hP1 hE1 hF1 hv hv' HS H;go_wp2;go_ret2;exact ⟨rfl,HG.out⟩
theorem PlAt.pushDeed (h : PlAt own z w pb D) {d : DeedV} (hd : DeedOk own (z + 1) w d) {w5 : World} {g cap : Nat} {ob : Obj} (hown : w5.ownsRow 0 75 10 (.slice (some ⟨g,0,none⟩) (D.deeds.length + 1) cap) (D.deeds.length + 1) (D.deeds.flatMap DeedV.cells ++ d.cells))
  (hgr : (w.drew.alloc ob).grownBy w5 D.dv.ownBlock) (hge : D.dv.ownBlock = some g\/w.heap.size<=g) :
  ∃ own',PlAt own' z (w5.setCell ⟨pb,9,none⟩ (.slice (some ⟨g,0,none⟩) (D.deeds.length + 1) cap)) pb { D with dv:=.slice (some ⟨g,0,none⟩) (D.deeds.length + 1) cap,deeds:=D.deeds ++ [d] }/\Ext own own' w/\FrP own z w (w5.setCell ⟨pb,9,none⟩ (.slice (some ⟨g,0,none⟩) (D.deeds.length + 1) cap)):=by
 have hfa : Fr (fun k=>D.dv.ownBlock = some k) w w5:=Fr.grown (((Fr.refl _ _).drew).alloc ob) hgr (fun k hk=>.inl hk);have hf : Fr (fun k=>D.dv.ownBlock = some k\/k = pb) w (w5.setCell ⟨pb,9,none⟩ (.slice (some ⟨g,0,none⟩) (D.deeds.length + 1) cap)):=Fr.setIn (.inr rfl) (hfa.mono (fun _ _ h=>.inl h)) 9 _;have hdt:=h.deeds.tg;have he : Ext own (own.put g (z + 1) (.oth 4)) w:=Ext.put' (Ext.refl _ _) (by
  rcases hge with h1 | h1
  ·exact .inl (hdt g h1)
  ·exact .inr h1)
 have hT : ∀ zz tag k,(zz,tag)≠(z + 1,Tag.oth 4)->(zz,tag)≠(z + 1,Tag.store)->own k = ⟨zz,tag⟩->¬ (D.dv.ownBlock = some k\/k = pb):=by
  rintro zz tag k n1 n2 hk (h1 | rfl)
  ·rw [hdt k h1] at hk; simp at hk; exact n1 (by rw [hk.1,hk.2])
  ·rw [h.tg] at hk; simp at hk; exact n2 (by rw [hk.1,hk.2])
 have hpne : D.dv.ownBlock≠some pb:=by
  intro hh; have:=hdt pb hh; rw [h.tg] at this; simp at this
 have hA5 : At w5 pb D.cells 42:=hfa.at h.at_ hpne;have hZ : ∀ k,(own k).z = z->¬ (D.dv.ownBlock = some k\/k = pb):=by
  rintro k hk (h1 | rfl)
  ·rw [hdt k h1] at hk; simp at hk
  ·rw [h.tg] at hk; simp at hk
 refine ⟨own.put g (z + 1) (.oth 4),⟨hA5.set 9 _,?_,h.st.fr hf he hZ,h.fit,h.thr,h.busy.fr hf he (fun k hk=>hT _ _ k (by simp) (by simp) hk),h.bl,h.ops.fr hf he (fun k hk=>hT _ _ k (by simp) (by simp) hk),h.ol,h.frm.fr hf he (fun k hk=>hT _ _ k (by simp) (by simp) hk),h.fl,?_,
  fun o ho=>(h.opk o ho).fr hf he (fun k hk=>hT _ _ k (by simp) (by simp) hk),?_⟩,he,Fr.mono hf ?_⟩
 ·rw [he pb h.at_.lt]; exact h.tg
 ·refine ⟨?_,?_⟩
  ·have:=ownsRow_setOther hown (a:=⟨pb,9,none⟩) (hA5.ne_row hown (by decide)) (.slice (some ⟨g,0,none⟩) (D.deeds.length + 1) cap)
   simp only [List.flatMap_append,List.length_append,List.flatMap_cons,List.flatMap_nil,List.append_nil,List.length_cons,List.length_nil,Nat.zero_add];exact this
  ·intro k hk;simp [Value.ownBlock] at hk;subst hk;exact Own.put_same _ _ _ _
 ·intro d' hd';rcases List.mem_append.1 hd' with h1 | h1
  ·exact (h.dok d' h1).fr hf he (fun k hk=>hT _ _ k (by simp) (by simp) hk) (fun k hk=>hT _ _ k (by simp) (by simp) hk)
  ·simp at h1;subst h1;exact hd.fr hf he (fun k hk=>hT _ _ k (by simp) (by simp) hk) (fun k hk=>hT _ _ k (by simp) (by simp) hk)
 ·rintro k _ (h1 | rfl)
  ·rw [hdt k h1]; exact .inr ⟨rfl,by simp⟩
  ·rw [h.tg]; exact .inr ⟨rfl,by simp⟩
theorem Tryz.infoDeed : (Tryz.prog.info? 75).map (fun i=>(i.zero,i.size,i.bytes)) = some (some (.agg #[.int .i64 0,.int .i64 0,.int .i64 0,.slice none 0 0,.int .i64 0,.bool false,.int .i64 0,.int .i64 0,.slice none 0 0,.int .i64 0]),10,112):=by kernel_rfl
end
end
end Go.Proofs.YtfccelbmacjifabGreat
