import Derived.Test.YtfccelbmacjifabGreatP0
import Derived.Test.YtfccelbmacjifabGreatP21
import Derived.Test.YtfccelbmacjifabGreatP19
import Derived.Test.YtfccelbmacjifabGreatP20
set_option linter.unusedSimpArgs false
set_option maxRecDepth 100000
set_option maxHeartbeats 4000000
namespace Go.Proofs.YtfccelbmacjifabGreat
section
open Go.RowKit
def LinksAt (w : World) (a : Option Addr) (ls : List (Int × Bool)) : Prop:=∀ (i : Nat) p,ls[i]? = some p->∃ g,a = some ⟨g,0,none⟩/\w.cell? ⟨g,i * 2,none⟩ = some (.int .i64 p.1)/\w.cell? ⟨g,i * 2 + 1,none⟩ = some (.int .i64 (b2i p.2))
theorem LinksAt.calm {w w' : World} {a : Option Addr} {ls : List (Int × Bool)} (h : LinksAt w a ls) (hf : Fr (fun _=>False) w w') : LinksAt w' a ls:=by
 intro i p hp;obtain ⟨g,h1,h2,h3⟩:=h i p hp;exact ⟨g,h1,hf.keepCell h2,hf.keepCell h3⟩
theorem link_get {ls : List (Int × Bool)} {i : Nat} {p : Int × Bool} (h : ls[i]? = some p) : (ls.flatMap linkCells)[i * 2]? = some (.int .i64 p.1)/\(ls.flatMap linkCells)[i * 2 + 1]? = some (.int .i64 (b2i p.2)):=by
 induction ls generalizing i with
 | nil=>simp at h
 | cons x r ih =>
  cases i with
  | zero=>simp at h; subst h; exact ⟨rfl,rfl⟩
  | succ i =>
   have hh:=ih (i:=i) (by simpa using h);have e : (x :: r).flatMap linkCells = linkCells x ++ r.flatMap linkCells:=rfl;have hl : (linkCells x).length = 2:=rfl;rw [e,List.getElem?_append_right (by rw [hl]; omega),List.getElem?_append_right (by rw [hl]; omega),hl];rw [show (i + 1) * 2 - 2 = i * 2 by omega,show (i + 1) * 2 + 1 - 2 = i * 2 + 1 by omega];exact hh
theorem LinksAt.ofRow {own : Own} {z : Nat} {w : World} {tag : Tag} {T : TypeId} {a : Option Addr} {c n : Nat} {ls : List (Int × Bool)} (h : Row own z w tag T 2 (.slice a n c) ls.length (ls.flatMap linkCells)) : LinksAt w a ls:=by
 intro i p hp;have hn : ls.length≠0:=by intro e; rw [List.eq_nil_of_length_eq_zero e] at hp; simp at hp
 obtain ⟨g,c',hv,_⟩:=ownsRow_shape h.row hn;have ho:=h.row;rw [hv] at ho;obtain ⟨h1,h2⟩:=link_get hp;simp at hv;exact ⟨g,hv.1,ownsRow_cell ho h1,ownsRow_cell ho h2⟩
theorem linksWithin_few (P : PSt) (n lo hi : Int) : (P.linksWithin n lo hi).length<=2:=by
 unfold PSt.linksWithin;split
 ·split <;> simp
 ·rw [List.length_append];have h1 : ∀ (b : Bool) (x : Int × Bool),(if b = true then [x] else ([] : List (Int × Bool))).length<=1:=by intro b x; split <;> simp
  have:=h1 ((P.mem.node n).links == 2 && decide (lo < (P.mem.node n).key)) (n,false)
  have:=h1 ((P.mem.node n).links == 2 && decide ((P.mem.node n).key<=hi)) (n,true)
  omega
section
variable {own : Own} {z : Nat} {w : World} {L : ZLay} {P : PSt}
theorem ZAt.wkLinks (h : ZAt own z w L P) {i : Nat} {l : WLay} {t : PThread} (hl : L.wks[i]? = some l) (ht : P.ts[i]? = some t) {w1 : World} {v : Value} {LW : List (Int × Bool)} (hO : OwnLinks w w1 v LW) :
  ∃ own' L' l',ZAt own' z (w1.setCell ⟨l.b,16,none⟩ v) L' (P.setT i { t with work:={ t.work with links:=LW } })/\L'.wks[i]? = some l'/\l'.b = l.b/\Ext own own' w/\FrZ own z w (w1.setCell ⟨l.b,16,none⟩ v)/\L'.s = L.s/\L'.ml = L.ml/\L'.wks.map (·.b) = L.wks.map (·.b):=by
 have hWk:=h.wk i l t hl ht;have hE : Ext own (fun k=>if v.ownBlock = some k then ⟨z,.tr i 2⟩ else own k) w:=by
  intro k hk;show (if _ then _ else _) = _;rw [if_neg];intro e
  have:=hO.new k e
  omega
 have hF : Fr (fun k=>k = l.b) w (w1.setCell ⟨l.b,16,none⟩ v):=Fr.set1 (Fr.mono hO.fr (fun _ _ h=>h.elim)) _ _;have hFT : FrT own z (fun t=>t = .thread i\/∃ k,t = .tr i k) w (w1.setCell ⟨l.b,16,none⟩ v):=FrT.one hF hWk.tg (.inl rfl);have hn : ∀ tag,tag≠Tag.thread i->∀ k,own k = ⟨z,tag⟩->¬ k = l.b:=by
  rintro tag hne k hk rfl; rw [hWk.tg] at hk; simp at hk; exact hne hk.symm
 have hA1:=hO.fr.at hWk.at_ (fun h=>h);refine ⟨_,_,{ l with links:=v },h.wkSet (l':={ l with links:=v }) (t':={ t with work:={ t.work with links:=LW } }) hl rfl hFT hE ⟨hA1.set 16 _,(hE _ hWk.at_.lt).trans hWk.tg,hWk.spans.fr hF hE (hn _ (by simp)),hWk.made.fr hF hE (hn _ (by simp)),⟨ownsRow_setOther hO.row (a:=⟨l.b,16,none⟩) (hA1.ne_row hO.row (by decide)) v,fun k hk=>by show (if _ then _ else _) = _; rw [if_pos hk]⟩,hWk.noted.fr hF hE (hn _ (by simp)),hWk.alists.fr hF hE (hn _ (by simp)),hWk.llists.fr hF hE (hn _ (by simp))⟩,(show (L.wks.set i _)[i]? = some _ from by rw [List.getElem?_set_self (List.getElem?_eq_some_iff.1 hl).1]),rfl,hE,hFT.zone,rfl,rfl,?_⟩;show (L.wks.set i _).map (·.b) = _;rw [List.map_set];exact setL_same (by simp [hl])
theorem OwnLists.lists {w1 : World} {v : Value} {ll : List (List (Int × Int))} (hO : OwnLists w w1 v ll) (own : Own) (z : Nat) : ∃ own',Ext own own' w/\ListsAt own' z w1 v ll:=by
 refine ⟨fun k=>if w.heap.size<=k then ⟨z,.lists⟩ else own k,fun k hk=>by show (if _ then _ else _) = _; rw [if_neg (by omega)],hO.nil,?_⟩;obtain ⟨ins,h1,h2,h3⟩:=hO.top;exact ⟨ins,h1,⟨h2,fun k hk=>by show (if _ then _ else _) = _; rw [if_pos (hO.new k hk)]⟩,fun j u l hu hl=>⟨(h3 j u l hu hl).1,fun k hk=>by show (if _ then _ else _) = _; rw [if_pos ((h3 j u l hu hl).2 k hk)]⟩⟩
theorem scan_calls (h : ZAt own z w L P) (hk : P.kind = 0\/P.kind = 1) {i : Nat} {l : WLay} {t : PThread} (hl : L.wks[i]? = some l) (ht : P.ts[i]? = some t) (n : Int) (hlk : t.work.links.length<=2 ^ 39 + 1) (h16 : t.work.spans.length<=16) (hn : t.work.noted.length<=2 ^ 39) :
  Calls Tryz.prog 95 #[.pointer (some ⟨L.s,0,none⟩),.pointer (some ⟨l.b,0,none⟩),.int .i64 n] w fun e w'=>e = .returned (.tuple #[])/\ZGoes own z w L (P.setT i { t with work:=P.scan t.work n }) w':=by
 obtain ⟨iP,hiP,hzP,hsP,hbP⟩:=info_parts Tryz.infoPr;obtain ⟨iL,hiL,hzL,hsL,hbL⟩:=info_parts Tryz.infoLk;obtain ⟨ha,haz,hal,hs,hsz,hsl,n1,n2⟩:=h.view hl ht;simp only [PThread.cells] at ha;simp only [PSt.head] at hs;obtain ⟨sa,sc,hsv,_⟩:=(h.wk i l t hl ht).spans.shape;have HPS : Hid (PairsAt w sa t.work.spans):=PairsAt.ofRow (by have:=(h.wk i l t hl ht).spans; rw [hsv] at this; exact this);rw [hsv] at ha;have H:=(mkH (ZAt own z w L P) <|h);have HK:=(mkH (P.kind = 0\/P.kind = 1) <|hk);have HL:=(mkH (L.wks[i]? = some l) <|hl);have Ht:=(mkH (P.ts[i]? = some t) <|ht);clear h hk hl ht hsz haz
 go_enter Tryz.func95,Tryz.ntmps95
 go_wp2_with fail;refine (leastLo_calls w sa sc t.work.spans (by omega) HPS.out).mono ?_;rintro e w1 ⟨rfl,rfl⟩;go_wp2_with fail;refine (greatestHi_calls w1 sa sc t.work.spans (by omega) HPS.out).mono ?_;rintro e w1 ⟨rfl,rfl⟩;go_wp2_with fail;refine (Node_calls H.out.mem n).mono ?_;rintro e w2 ⟨rfl,hF⟩;have H2:=(mkH (ZAt own z w2 L P) <|H.out.calm hF);have HF2:=(mkH (Fr _ w1 w2) <|hF);clear hF H HPS ha hal hs hsl;have HE : Hid (∀ N LW,(if (!((P.mem.node n).links == 2) && isIn (P.mem.node n).key (leastLo t.work.spans) (greatestHi t.work.spans)) = true then t.work.noted ++ [((P.mem.node n).key,(P.mem.node n).value)] else t.work.noted) = N->P.linksWithin n (leastLo t.work.spans) (greatestHi t.work.spans) ++ t.work.links.drop 1 = LW ->
   P.scan t.work n = if LW.length = 0 then ({ t.work with noted:=N,links:=LW } : PWork).conclude (answerOf t.work.spans N t.work.time) else { t.work with noted:=N,links:=LW }):=by
  rintro N LW rfl rfl; rfl
 generalize hlo : leastLo t.work.spans = lo at HE ⊢;generalize hhi : greatestHi t.work.spans = hi at HE ⊢;clear hlo hhi;generalize P.mem.node n = x at HE ⊢;unfold nodeVal;go_wp2_with fail;generalize hw3 : World.alloc w2 _ = w3;have hF3 : Fr (fun _=>False) w2 w3:=by subst hw3; exact (Fr.refl _ _).alloc _
 have HX3 : Hid (At w3 w2.heap.size (nodeCells x) 131):=by subst hw3; exact At.new _ _ _
 clear hw3;refine (IsInner_calls x w3).mono ?_;rintro e w5 ⟨rfl,hF4⟩;have H4:=(mkH (ZAt own z w5 L P) <|H2.out.calm (hF3.trans hF4));have HF4:=(mkH (Fr (fun _=>False) w1 w5) <|HF2.out.trans (hF3.trans hF4));have HX4:=(mkH (At w5 w2.heap.size _ _) <|hF4.at HX3.out (fun h=>h));clear H2 HF2 hF3 HX3 hF4;obtain ⟨ha,haz,hal,hs,hsz,hsl,_,_⟩:=H4.out.view HL.out Ht.out;have hxc:=HX4.out.cell;simp only [nodeCells] at hxc;simp only [PThread.cells] at ha;simp only [PSt.head] at hs;clear hsz haz;cases hin : (x.links == 2)
 focus
  go_wp2_with fail;refine (isWithin_calls _ _ _ _).mono ?_;rintro e w6 ⟨rfl,hw⟩;have hw:=hw.symm;subst hw;cases hwi : isIn x.key lo hi
 rotate_left
 focus
  obtain ⟨N,hN⟩ : ∃ N,N = t.work.noted ++ [(x.key,x.value)]:=⟨_,rfl⟩;have HN : Hid ((if (!(x.links == 2) && isIn x.key lo hi) = true then t.work.noted ++ [(x.key,x.value)] else t.work.noted) = N):=by show _ = _; rw [hin,hwi,hN]; rfl
  have HNl : Hid (N.length<=2 ^ 39 + 1):=by show _<=_; rw [hN,List.length_append,List.length_singleton]; omega
  go_wp2_with fail;have hrow:=(H4.out.wk i l t HL.out Ht.out).noted;obtain ⟨na,nc,hnv,_⟩:=hrow.shape;have Hrow1:=hrow.row;rw [hnv] at Hrow1;have hrow1 : (w5.drew.alloc (.cells #[.int .i64 x.key,.int .i64 x.value] 95)).ownsRow 0 95 2 (.slice na t.work.noted.length nc) t.work.noted.length (t.work.noted.flatMap pairCells):=ownsRow_alloc (World.ownsRow.drew Hrow1) _;obtain ⟨g,gcap,w6,hown,hg,hge,hrun⟩:=push_runs (P:=Tryz.prog) (w5.drew.alloc (.cells #[.int .i64 x.key,.int .i64 x.value] 95)) 47 47 0 95 iP (.agg #[.int .i64 0,.int .i64 0]) 2 16 Tryz.underlying47 hiP hzP hsP hbP rfl (by decide) _ _ _ hrow1
   w5.heap.size [.int .i64 x.key,.int .i64 x.value] rfl 95 (At.newAt rfl _ _) (by simp [Value.oneCell']) (by unfold maxLen; omega) (by omega) (by simp)
  have HT5:=(mkH (At w5 l.b _ _) <|(H4.out.wk i l t HL.out Ht.out).at_);have M2 : Hid ((Value.slice na t.work.noted.length nc).ownBlock≠some l.b):=HT5.out.ne_row Hrow1 (by decide);have M3 : Hid ((Value.slice na t.work.noted.length nc).ownBlock≠some w2.heap.size):=HX4.out.ne_row Hrow1 (by decide);have HT6:=(mkH (At w6 l.b _ _) <|((HT5.out.drew).alloc _).grown hg M2.out);have HX6:=(mkH (At w6 w2.heap.size _ _) <|((HX4.out.drew).alloc _).grown hg M3.out);have HRun:=(mkH (∀ (o : Oper) (a : Act) (s x : Operand),_) <|hrun);have HOwn:=(mkH (w6.ownsRow 0 _ _ _ _ _) <|hown);have HG:=(mkH (World.grownBy _ w6 _) <|hg);have HGe:=(mkH (_\/_) <|hge);have Hrow:=(show Hid _ from hrow);have Hnv:=(mkH (l.noted = .slice na t.work.noted.length nc) <|hnv);clear hrun hown hg hge hrow1 Hrow1 ha hxc hs hal hsl hrow hnv;refine wp_region_mix [11,12,16] (fun k=>match k with | 0=>w5.drew | 1=>w5.drew.alloc (.cells #[.int .i64 x.key,.int .i64 x.value] 95) | 2=>w6 | _=>w6.setCell ⟨l.b,17,none⟩ (.slice (some ⟨g,0,none⟩) (t.work.noted.length + 1) gcap)) 2 rfl (by kernel_rfl) (by kernel_rfl) (by kernel_rfl) (by decide) (by kernel_rfl) (by kernel_rfl) (by decide) rfl ?_;intro W hW;have ha : ∀ u o,(W u).cell? ⟨l.b,o,none⟩ = (t.cells i l)[o]?:=by
   intro u;obtain ⟨k,hk,he⟩:=hW u;rw [he];rcases (show k = 0\/k = 1\/k = 2 by omega) with rfl | rfl | rfl
   ·exact HT5.out.drew.cell
   ·exact (HT5.out.drew.alloc _).cell
   ·exact HT6.out.cell
  have hx : ∀ u o,(W u).cell? ⟨w2.heap.size,o,none⟩ = (nodeCells x)[o]?:=by
   intro u;obtain ⟨k,hk,he⟩:=hW u;rw [he];rcases (show k = 0\/k = 1\/k = 2 by omega) with rfl | rfl | rfl
   ·exact HX4.out.drew.cell
   ·exact (HX4.out.drew.alloc _).cell
   ·exact HX6.out.cell
  simp only [PThread.cells,Hnv.out] at ha;simp only [nodeCells] at hx;clear hW;have hc6:=HT6.out.cell;have hz6:=HT6.out.frozen;simp only [PThread.cells] at hc6
  repeat (refine mix_read rfl rfl ?_; go_big_quiet_step (fail); refine wpQuiet_nil ?_)
  refine mix_eff (v:=.slice (some ⟨w5.heap.size,0,none⟩) 1 1) rfl rfl rfl ?_ ?_
  ·go_simp;exact ⟨rfl,rfl⟩
  refine mix_eff rfl rfl rfl (HRun.out _ _ _ _ rfl rfl rfl rfl) ?_;go_simp
  repeat (refine mix_read rfl rfl ?_; go_big_quiet_step (fail); refine wpQuiet_nil ?_)
  refine mix_eff (v:=undef) rfl rfl rfl ?_ ?_
  ·go_simp;exact ⟨rfl,rfl⟩
  refine mix_nil ?_;go_simp;have hne : l.b≠g:=by
   have:=HT6.out.ne_row HOwn.out (by decide)
   intro e; apply this; simp [Value.ownBlock,e]
  have hF7 : Fr (fun k=>k = l.b\/l.noted.ownBlock = some k) w5 (w6.setCell ⟨l.b,17,none⟩ (.slice (some ⟨g,0,none⟩) (t.work.noted.length + 1) gcap)) :=
   Fr.setIn (.inl rfl) ((((Fr.refl _ _).drew).alloc _).grown HG.out (fun k hk=>.inl (.inr (by rw [Hnv.out]; exact hk)))) _ _
  have hE7 : Ext own (own.put g z (.tr i 3)) w5:=Ext.put' (Ext.refl _ _) (by
   rcases HGe.out with h | h
   ·exact .inl (Hrow.out.tg g (by rw [Hnv.out]; exact h))
   ·exact .inr (by simp at h; omega))
  have hWk:=H4.out.wk i l t HL.out Ht.out;have hFT : FrT own z (fun t=>t = .thread i\/∃ k,t = .tr i k) w5 (w6.setCell ⟨l.b,17,none⟩ (.slice (some ⟨g,0,none⟩) (t.work.noted.length + 1) gcap)):=FrT.of hF7 (by
   rintro k (rfl | hk)
   ·rw [hWk.tg]; exact ⟨rfl,.inl rfl⟩
   ·rw [hWk.noted.tg k hk]; exact ⟨rfl,.inr ⟨3,rfl⟩⟩)
  have hnS : ∀ tag,tag≠Tag.thread i->tag≠Tag.tr i 3->∀ k,own k = ⟨z,tag⟩->¬ (k = l.b\/l.noted.ownBlock = some k):=by
   rintro tag h1 h2 k hk (rfl | hk')
   ·rw [hWk.tg] at hk; simp at hk; exact h1 hk.symm
   ·rw [hWk.noted.tg k hk'] at hk; simp at hk; exact h2 hk.symm
  have hZ7:=H4.out.wkSet (l':={ l with noted:=.slice (some ⟨g,0,none⟩) (t.work.noted.length + 1) gcap }) (t':={ t with work:={ t.work with noted:=N } }) HL.out rfl hFT hE7 ⟨HT6.out.set 17 _,by rw [hE7 _ HT5.out.lt]; exact hWk.tg,hWk.spans.fr hF7 hE7 (hnS _ (by simp) (by simp)),hWk.made.fr hF7 hE7 (hnS _ (by simp) (by simp)),hWk.links.fr hF7 hE7 (hnS _ (by simp) (by simp)),⟨by
    have:=ownsRow_setOther HOwn.out (a:=⟨l.b,17,none⟩) (by simp [Value.ownBlock]; exact fun e=>hne e.symm) (.slice (some ⟨g,0,none⟩) (t.work.noted.length + 1) gcap)
    simpa [hN,pairCells] using this,by intro k hk; simp [Value.ownBlock] at hk; subst hk; exact Own.put_same _ _ _ _⟩,hWk.alists.fr hF7 hE7 (hnS _ (by simp) (by simp)),hWk.llists.fr hF7 hE7 (hnS _ (by simp) (by simp))⟩
  have hFz:=hFT.zone;generalize w6.setCell ⟨l.b,17,none⟩ (.slice (some ⟨g,0,none⟩) (t.work.noted.length + 1) gcap) = wq at *;obtain ⟨ownq,Lq,lq,HQ,HLq,Hbq,HG⟩ : ∃ ownq Lq lq,Hid (ZAt ownq z wq Lq (P.setT i { t with work:={ t.work with noted:=N } }))/\Hid (Lq.wks[i]? = some lq)/\Hid (lq.b = l.b)/\Hid (Ext own ownq w1/\FrZ own z w1 wq/\Lq.s = L.s/\Lq.ml = L.ml/\Lq.wks.map (·.b) = L.wks.map (·.b)):=by
   refine ⟨_,_,{ l with noted:=.slice (some ⟨g,0,none⟩) (t.work.noted.length + 1) gcap },hZ7,(show (L.wks.set i _)[i]? = some _ from by rw [List.getElem?_set_self (List.getElem?_eq_some_iff.1 HL.out).1]),rfl,fun k hk=>hE7 k (Nat.lt_of_lt_of_le hk HF4.out.size),FrZ.trans (Fr.mono HF4.out (fun _ _ h=>h.elim)) (Ext.refl _ _) hFz,rfl,rfl,?_⟩;show (L.wks.set i _).map (·.b) = _;rw [List.map_set];exact setL_same (by simp [HL.out])
  clear hZ7 hFz hFT hF7 hE7 hWk hnS hne hN ha hx hc6 hz6 HT5 HT6 HX4 HX6 M2 M3 HRun HOwn HGe Hrow Hnv H4 HF4;go_wp2_with fail
 rotate_left
 iterate 2
  focus
   obtain ⟨N,hN⟩ : ∃ N,N = t.work.noted:=⟨_,rfl⟩;have HN : Hid ((if (!(x.links == 2) && isIn x.key lo hi) = true then t.work.noted ++ [(x.key,x.value)] else t.work.noted) = N):=by show _ = _; first | (rw [hin,hwi,hN]; rfl) | (rw [hin,hN]; rfl)
   have HNl : Hid (N.length<=2 ^ 39 + 1):=by show _<=_; rw [hN]; omega
   clear ha hs hxc hal hsl;go_wp2_with fail;generalize w5 = wq at *;obtain ⟨ownq,Lq,lq,HQ,HLq,Hbq,HG⟩ : ∃ ownq Lq lq,Hid (ZAt ownq z wq Lq (P.setT i { t with work:={ t.work with noted:=N } }))/\Hid (Lq.wks[i]? = some lq)/\Hid (lq.b = l.b)/\Hid (Ext own ownq w1/\FrZ own z w1 wq/\Lq.s = L.s/\Lq.ml = L.ml/\Lq.wks.map (·.b) = L.wks.map (·.b)):=by
    refine ⟨own,L,l,?_,HL.out,rfl,Ext.refl _ _,Fr.mono HF4.out (fun _ _ h=>h.elim),rfl,rfl,rfl⟩;show ZAt _ _ _ _ (P.setT i _);have : P.setT i { t with work:={ t.work with noted:=N } } = P:=by
     subst hN;show { P with ts:=P.ts.set i t } = P;rw [setL_same Ht.out]
    rw [this]; exact H4.out
   clear hN HX4 H4 HF4
  rotate_left
 all_goals
  have hlw:=linksWithin_calls HQ.out HK.out n lo hi;rw [HG.out.2.2.1] at hlw;refine hlw.mono ?_;clear hlw;rintro e w6 ⟨v,rfl,hO⟩;obtain ⟨LW0,hW0⟩ : ∃ LW0,LW0 = P.linksWithin n lo hi:=⟨_,rfl⟩;have HLf : Hid (LW0.length<=2):=by show _<=_; rw [hW0]; exact linksWithin_few _ _ _ _
  have HO0 : Hid (OwnLinks wq w6 v LW0):=by show OwnLinks _ _ _ _; rw [hW0]; exact hO
  have HE0:=(show Hid _ from HE.out N (LW0 ++ t.work.links.drop 1) HN.out (by rw [hW0]));clear hO HE HN hW0;have Ht6 : Hid ((P.setT i { t with work:={ t.work with noted:=N } }).ts[i]? = some { t with work:={ t.work with noted:=N } }):=by
   show (P.ts.set i _)[i]? = _;rw [List.getElem?_set_self (List.getElem?_eq_some_iff.1 Ht.out).1]
  obtain ⟨ka,kc,hkv,_⟩:=(HQ.out.wk i lq _ HLq.out Ht6.out).links.shape;have HKV:=(mkH (lq.links = .slice ka t.work.links.length kc) <|hkv);have HKA : Hid (LinksAt wq ka t.work.links):=LinksAt.ofRow (by have:=(HQ.out.wk i lq _ HLq.out Ht6.out).links; rw [hkv] at this; exact this);clear hkv;obtain ⟨T,hT⟩ : ∃ T,T = t.work.links.length - 1:=⟨_,rfl⟩;have HT:=(mkH (T = t.work.links.length - 1) <|hT);clear hT;go_wp2_with fail
  go_loopw [9,10] (fun v j wr=>∃ k : Nat,k<=T/\j = .int .i64 (k + 1)/\Hid (OwnLinks wq wr v (LW0 ++ (t.work.links.drop 1).take k))) (fun _ j _=>T + 2 - (intOf j).toNat)
  case atStart=>exact ⟨0,Nat.zero_le _,rfl,by show OwnLinks _ _ _ _; rw [List.take_zero,List.append_nil]; exact HO0.out⟩
  case round =>
   clear HO0;obtain ⟨k,hk,rfl,HO⟩:=hrel;have H6:=(mkH (ZAt ownq z wr Lq _) <|HQ.out.calm HO.out.fr);obtain ⟨ha,haz,hal,_,_,_,_,_⟩:=H6.out.view HLq.out Ht6.out;simp only [PThread.cells,HKV.out] at ha;rw [Hbq.out] at ha haz hal;obtain ⟨X,hX⟩ : ∃ X,X = LW0 ++ (t.work.links.drop 1).take k:=⟨_,rfl⟩;rw [<- hX] at HO;have HX:=(mkH (X = LW0 ++ (t.work.links.drop 1).take k) <|hX);clear hX;obtain ⟨va,vc,rfl⟩:=ownsShape HO.out.row;by_cases hlt : k < T
   ·have hx : Hid (t.work.links[k + 1]? = some (t.work.links[k + 1]'(by have:=HT.out; omega))):=List.getElem?_eq_getElem _;generalize t.work.links[k + 1]'(by have:=HT.out; omega) = y at hx;obtain ⟨g,rfl,c0,c1⟩:=(HKA.out.calm HO.out.fr) (k + 1) y hx.out;have HLL : Hid (X.length<=2 ^ 40):=by
     show _<=_
     have:=HLf.out
     rw [HX.out,List.length_append,List.length_take,List.length_drop];omega
    have HN : Hid (LW0 ++ (t.work.links.drop 1).take (k + 1) = X ++ [y]):=by
     show _ = _;rw [HX.out,List.take_add_one,List.getElem?_drop,Nat.add_comm 1 k,hx.out,List.append_assoc]; rfl
    have hlt':=(show k + 1 < t.work.links.length by have:=HT.out; omega);clear H6 haz;go_wp2_with (at_builtin; refine wpList_push _ rfl _ _ 114 rfl 0 113 iL _ 2 16 Tryz.underlying114 hiL hzL hsL hbL rfl (by decide) _ _ _ rfl (ownsRow_alloc HO.out.row _) wr.heap.size [.int .i64 y.1,.int .i64 (b2i y.2)] rfl rfl 113 (At.newAt (by simp) _ _) (by simp [Value.oneCell']) (by have:=HLL.out; unfold maxLen; omega) (by have:=HLL.out; omega) (by simp) ?_);intro g2 cap2 w8 hown hgr hge;have HO8 : Hid (OwnLinks wq w8 (.slice (some ⟨g2,0,none⟩) (X.length + 1) cap2) (LW0 ++ (t.work.links.drop 1).take (k + 1))):=by
     show OwnLinks _ _ _ _;rw [HN.out];refine ⟨by simpa [linkCells] using hown,?_,Fr.grown (HO.out.fr.alloc _) hgr (fun k hk=>.inr (HO.out.new k hk))⟩;intro q hq;simp [Value.ownBlock] at hq;subst hq
     have:=HO.out.fr.size
     rcases hge with h | h
     ·exact HO.out.new _ h
     ·first | omega | (simp at h; omega)
    clear hown hgr hge ha hal c0 c1 HO;go_wp2
    go_roundw
    case rel=>exact ⟨k + 1,by omega,by go_num,HO8⟩
    case measure=>simp [intOf]; omega
   ·have hlt':=(show ¬ k + 1 < t.work.links.length by have:=HT.out; omega);obtain ⟨LW,hW⟩ : ∃ LW,LW = LW0 ++ t.work.links.drop 1:=⟨_,rfl⟩;have hke : X = LW:=by
     rw [hW,HX.out,List.take_of_length_le (by rw [List.length_drop]; have:=HT.out; omega)]
    subst hke;have HE2:=HE0;rw [<- hW] at HE2;clear hW HE0 HX;obtain ⟨own7,L7,l7,hZ7,hL7,hb7,hE7,hF7,hs7,hm7,hw7⟩:=HQ.out.wkLinks HLq.out Ht6.out HO.out;rw [Hbq.out] at hZ7 hF7;have hEz : Ext own own7 w1:=Ext.trans HG.out.1 hE7 HG.out.2.1.size;have hFz:=FrZ.trans HG.out.2.1 HG.out.1 hF7;have hPP : ∀ k : PWork,(((P.setT i { t with work:={ t.work with noted:=N } }).setT i { t with work:=k }) = P.setT i { t with work:=k }):=by
     intro k; show ({ P with ts:=(P.ts.set i _).set i _ } : PSt) = { P with ts:=P.ts.set i _ }; rw [List.set_set]
    have HZ7:=(mkH (ZAt own7 z _ _ _) <|hZ7);have HE7:=(mkH (Ext own own7 w1) <|hEz);have HF7:=(mkH (FrZ own z w1 _) <|hFz);have HPP:=(mkH (∀ k : PWork,_) <|hPP);have HLs:=(mkH (L7.s = L.s/\L7.ml = L.ml/\L7.wks.map (·.b) = L.wks.map (·.b)) <|⟨hs7.trans HG.out.2.2.1,hm7.trans HG.out.2.2.2.1,hw7.trans HG.out.2.2.2.2⟩);have HL7:=(mkH (L7.wks[i]? = some l7) <|hL7);have HB7:=(mkH (l7.b = l.b) <|hb7.trans Hbq.out);rw [HPP.out] at HZ7;clear HQ hZ7 hE7 hEz hFz hF7 hPP H6 hs7 hm7 hw7 hL7 hb7 HPP HLq HG HKA;generalize X = LW at *;by_cases hle : LW.length = 0
    rotate_left
    ·have hq : ((LW.length : Int) == 0) = false:=by simp; intro e; exact hle (by rw [e]; rfl)
     have HLE:=(mkH (¬ LW.length = 0) <|hle);clear hle;rw [if_neg HLE.out] at HE2;generalize hql : LW.length = q at HO HZ7 HF7 hq HLE ⊢;clear hql;go_wp2
     go_end0
     rw [HE2.out];exact ⟨rfl,own7,L7,HZ7.out,HE7.out,HF7.out,HLs.out⟩
    ·have hLl:=hle;clear hle;rw [hLl] at HO HE2 HZ7 HF7 ⊢;go_wp2_with fail;clear ha haz hal HO;generalize wr.setCell ⟨l.b,16,none⟩ (.slice va 0 vc) = w7 at *;have Ht7 : Hid ((P.setT i { t with work:={ t.work with noted:=N,links:=LW } }).ts[i]? = some { t with work:={ t.work with noted:=N,links:=LW } }):=by
      show (P.ts.set i _)[i]? = _;rw [List.getElem?_set_self (List.getElem?_eq_some_iff.1 Ht.out).1]
     have hWk:=HZ7.out.wk i l7 _ HL7.out Ht7.out;obtain ⟨pa,pc,hpv,_⟩:=hWk.spans.shape;obtain ⟨qa,qc,hqv,_⟩:=hWk.noted.shape;have HPS : Hid (PairsAt w7 pa t.work.spans):=PairsAt.ofRow (by have:=hWk.spans; rw [hpv] at this; exact this);have HPN : Hid (PairsAt w7 qa N):=PairsAt.ofRow (by have:=hWk.noted; rw [hqv] at this; exact this);have HT7:=(mkH (At w7 l.b _ _) <|by rw [<- HB7.out]; exact hWk.at_);have HV:=(mkH (l7.spans = .slice pa t.work.spans.length pc/\l7.noted = .slice qa N.length qc) <|⟨hpv,hqv⟩);clear hWk hpv hqv;refine wp_region_late 15 [.int .i64 0,.bool false,.int .i64 0,.int .i64 0,.slice none 0 0] 69 rfl (by kernel_rfl) (by kernel_rfl) rfl (by kernel_rfl) ?_;intro U W hU hW;have ha : ∀ u o,(W u).cell? ⟨l.b,o,none⟩ = (({ t with work:={ t.work with noted:=N,links:=LW } } : PThread).cells i l7)[o]?:=by
      intro u;rcases hW u with h | h <;> rw [h]
      ·exact HT7.out.drew.cell
      ·exact (HT7.out.drew.alloc _).cell
     simp only [PThread.cells,HV.out.1,HV.out.2] at ha;clear hW
     repeat (refine late_read rfl ?_; go_big_quiet_step (fail); refine wpQuiet_nil ?_)
     refine late_end ⟨rfl,?_,?_,?_⟩
     ·go_simp
     all_goals clear ha
     ·go_wp2_with fail;have hd : Fr (fun _=>False) w7 w7.drew:=(Fr.refl _ _).drew;refine (answerOfScan_calls w7.drew pa pc t.work.spans h16 (HPS.out.calm hd) qa qc N (by have:=HNl.out; omega) (HPN.out.calm hd) t.work.time).mono ?_;rintro e w8 ⟨ua,un,uc,rfl,hO⟩;obtain ⟨own8,hE8,hLs8⟩:=hO.lists own7 z;have hZ8:=(HZ7.out.calm hd).fr hO.fr hE8 (fun _ _ h=>h);have HE8:=(mkH (Ext own7 own8 w7) <|hE8);have HF8:=(mkH (Fr (fun _=>False) w7 w8) <|hd.trans hO.fr);have HS8:=(mkH (ListsAt own8 z w8 _ _) <|hLs8);have HZ8:=(mkH (ZAt own8 z w8 L7 _) <|hZ8);clear hO hE8 hLs8 hZ8 hd;generalize answerOf t.work.spans N t.work.time = A at *;unfold ansV;go_wp2_with fail;generalize hw9 : World.alloc w8 _ = w9;have hF9 : Fr (fun _=>False) w8 w9:=by subst hw9; exact (Fr.refl _ _).alloc _
      clear hw9;have hcon:=conclude_calls (HZ8.out.calm hF9) HL7.out Ht7.out A ua un uc (HS8.out.fr hF9 (Ext.refl _ _) (fun _ _ h=>h));rw [HB7.out] at hcon;refine hcon.mono ?_;clear hcon;rintro e w10 ⟨rfl,hZ⟩;have HZ:=(mkH (ZGoes own8 z w9 L7 _ w10) <|hZ);have HF9:=(mkH (Fr _ w8 w9) <|hF9);clear hZ hF9;go_wp2
      go_end0
      rw [HE2.out,if_pos (by trivial)];refine ⟨rfl,ZGoes.trans (own1:=own8) (Ext.trans HE7.out HE8.out HF7.out.size) (FrZ.trans HF7.out HE7.out (Fr.mono (HF8.out.trans HF9.out) (fun _ _ h=>h.elim))) HLs.out.1 HLs.out.2.1 HLs.out.2.2 ?_⟩;have hPP : ∀ x y : PThread,(P.setT i x).setT i y = P.setT i y:=by
       intro x y; show ({ P with ts:=(P.ts.set i _).set i _ } : PSt) = { P with ts:=P.ts.set i _ }; rw [List.set_set]
      have hZ:=HZ.out;rw [hPP] at hZ;exact hZ
     ·have HX:=(mkH (At (w7.drew.alloc _) w7.heap.size _ _) <|At.new w7.drew [.int .i64 0,.bool false,.int .i64 0,.int .i64 0,.slice none 0 0] 69);have hd : Fr (fun _=>False) w7 (w7.drew.alloc (.cells #[.int .i64 0,.bool false,.int .i64 0,.int .i64 0,.slice none 0 0] 69)):=((Fr.refl _ _).drew).alloc _;go_wp2_with fail;refine (answerOfScan_calls _ pa pc t.work.spans h16 (HPS.out.calm hd) qa qc N (by have:=HNl.out; omega) (HPN.out.calm hd) t.work.time).mono ?_;rintro e w8 ⟨ua,un,uc,rfl,hO⟩;obtain ⟨own8,hE8,hLs8⟩:=hO.lists (own7.put w7.heap.size z (.oth 9)) z;have HOb : Hid (own8 w7.heap.size = ⟨z,.oth 9⟩):=(hE8 _ (by show _ < (w7.drew.alloc _).heap.size; simp)).trans (Own.put_same _ _ _ _);have HE8:=(mkH (Ext own7 own8 w7) <|fun k hk=>(hE8 k (Nat.lt_of_lt_of_le hk hd.size)).trans (Own.put_ne _ _ _ (by omega)));have HF8:=(mkH (Fr (fun _=>False) w7 w8) <|hd.trans hO.fr);have HS8:=(mkH (ListsAt own8 z w8 _ _) <|hLs8);have HX8:=(mkH (At w8 w7.heap.size _ _) <|hO.fr.at HX.out (fun h=>h));clear hO hE8 hLs8 hd HX;generalize answerOf t.work.spans N t.work.time = A at *;unfold ansV;have hxc:=HX8.out.cell;have hxz:=HX8.out.frozen;go_wp2_with fail;generalize hw9 : World.setCell _ ⟨w7.heap.size,4,none⟩ _ = w9;have hF9 : Fr (fun k=>k = w7.heap.size) w8 w9:=by
       subst hw9
       repeat (with_reducible first | refine Fr.set1 ?_ _ _ | exact Fr.refl _ _)
      have hF79 : Fr (fun _=>False) w7 w9:=by
       subst hw9
       repeat (with_reducible first | refine Fr.setNew (Nat.le_refl _) ?_ _ _ | exact HF8.out)
      clear hw9 hxc hxz HX8;have hcon:=conclude_calls (HZ7.out.fr hF79 HE8.out (fun _ _ h=>h)) HL7.out Ht7.out A ua un uc (HS8.out.fr hF9 (Ext.refl _ _) (fun k hk e=>by rw [e,HOb.out] at hk; simp at hk));rw [HB7.out] at hcon;refine hcon.mono ?_;clear hcon;rintro e w10 ⟨rfl,hZ⟩;have HZ:=(mkH (ZGoes own8 z w9 L7 _ w10) <|hZ);have HF9:=(mkH (Fr _ w7 w9) <|hF79);clear hZ hF9 hF79;go_wp2
      go_end0
      rw [HE2.out,if_pos (by trivial)];refine ⟨rfl,ZGoes.trans (own1:=own8) (Ext.trans HE7.out HE8.out HF7.out.size) (FrZ.trans HF7.out HE7.out (Fr.mono HF9.out (fun _ _ h=>h.elim))) HLs.out.1 HLs.out.2.1 HLs.out.2.2 ?_⟩;have hPP : ∀ x y : PThread,(P.setT i x).setT i y = P.setT i y:=by
       intro x y; show ({ P with ts:=(P.ts.set i _).set i _ } : PSt) = { P with ts:=P.ts.set i _ }; rw [List.set_set]
      have hZ:=HZ.out;rw [hPP] at hZ;exact hZ
end
end
section
open Go.RowKit
section
variable {own : Own} {z : Nat} {w : World} {L : ZLay} {P : PSt}
theorem stepOfRead_calls (h : ZAt own z w L P) (hk : P.kind = 0\/P.kind = 1) {i : Nat} {l : WLay} {t : PThread} (hl : L.wks[i]? = some l) (ht : P.ts[i]? = some t) (hkd : t.work.kind = 3\/t.work.kind = 4) (hlk : t.work.kind = 4->t.work.links.length<=2 ^ 39 + 1/\t.work.spans.length<=16/\t.work.noted.length<=2 ^ 39) :
  Calls Tryz.prog 81 #[.pointer (some ⟨L.s,0,none⟩),.pointer (some ⟨l.b,0,none⟩)] w fun e w'=>e = .returned (.int .i64 (P.read i t.work).2)/\ZGoes own z w L (P.read i t.work).1 w':=by
 have HE : Hid (∀ b a,P.mem.hasPending (P.linkNext t.work).1 (P.linkNext t.work).2 = b->P.mem.ledTo (P.linkNext t.work).1 (P.linkNext t.work).2 t.work.time = a->P.read i t.work = if b then (P,2) else (P.setW i (if t.work.kind = 3 then P.lookUp t.work a else P.scan t.work a),1)):=by
  rintro b a rfl rfl; rfl
 have HW : Hid (∀ k,P.setW i k = P.setT i { t with work:=k }):=by
  intro k;exact setT_work ht k
 have H:=(mkH (ZAt own z w L P) <|h);have HL:=(mkH (L.wks[i]? = some l) <|hl);have Ht:=(mkH (P.ts[i]? = some t) <|ht);have HK:=(mkH ((P.kind = 0\/P.kind = 1)/\(t.work.kind = 4->_)) <|⟨hk,hlk⟩);have HKD:=(mkH (t.work.kind = 3\/t.work.kind = 4) <|hkd);clear h hl ht hk hlk hkd
 go_enter Tryz.func81,Tryz.ntmps81
 go_wp2_with fail;refine (linkToFollow_calls H.out HL.out Ht.out).mono ?_;rintro e w1 ⟨rfl,hF1⟩;generalize P.linkNext t.work = p at HE ⊢;obtain ⟨pn,ps⟩:=p;have HF1:=(mkH (Fr _ w w1) <|hF1);clear hF1;unfold lnk;go_wp2_with fail;generalize hw2 : World.alloc w1 _ = w2;have HF2 : Hid (Fr (fun _=>False) w w2):=by subst hw2; exact HF1.out.alloc _
 have HX : Hid (At w2 w1.heap.size [.int .i64 pn,.int .i64 (b2i ps)] 113):=by subst hw2; exact At.new _ _ _
 clear hw2 HF1;have H2:=(mkH (ZAt own z w2 L P) <|H.out.calm HF2.out);clear H;refine wp_region_calm [5] 0 rfl (by kernel_rfl) (by kernel_rfl) (by kernel_rfl) (by decide) (by kernel_rfl) (by decide) ?_;intro U W hU hW;have hau : ∀ u o,(W u).cell? ⟨L.s,o,none⟩ = (P.head L)[o]?:=fun u=>((H2.out).calm (hW u)).hd.cell
 have hxu : ∀ u o,(W u).cell? ⟨w1.heap.size,o,none⟩ = [Value.int .i64 pn,.int .i64 (b2i ps)][o]?:=fun u=>((hW u).at HX.out (fun h=>h)).cell
 simp only [PSt.head] at hau;clear hW
 repeat (refine mix_read rfl rfl ?_; go_big_quiet_step (fail); refine wpQuiet_nil ?_)
 refine mix_effC (.bool (P.mem.hasPending pn ps)) rfl rfl rfl ?_ ?_
 ·intro w' hw';go_simp;refine (HasPending_calls (H2.out.calm hw').mem pn ps).mono ?_;rintro e w'' ⟨rfl,hF⟩;exact ⟨rfl,hw'.trans hF⟩
 go_simp;refine mix_nil ?_;intro w3 hw3;have HF3:=(mkH (Fr (fun _=>False) w w3) <|HF2.out.trans hw3);have H3:=(mkH (ZAt own z w3 L P) <|H2.out.calm hw3);have HX3:=(mkH (At w3 w1.heap.size _ _) <|hw3.at HX.out (fun h=>h));clear hau hxu hw3 HF2 HX H2;have HE2:=(show Hid _ from HE.out _ _ rfl rfl);clear HE;generalize P.mem.hasPending pn ps = hp at HE2 ⊢;cases hp
 ·go_wp2_with fail;refine wp_region_calm [10] 0 rfl (by kernel_rfl) (by kernel_rfl) (by kernel_rfl) (by decide) (by kernel_rfl) (by decide) ?_;intro U W hU hW;have hau : ∀ u o,(W u).cell? ⟨L.s,o,none⟩ = (P.head L)[o]?:=fun u=>((H3.out).calm (hW u)).hd.cell
  have hlu : ∀ u o,(W u).cell? ⟨l.b,o,none⟩ = (t.cells i l)[o]?:=fun u=>(((H3.out).calm (hW u)).wk i l t HL.out Ht.out).at_.cell
  have hxu : ∀ u o,(W u).cell? ⟨w1.heap.size,o,none⟩ = [Value.int .i64 pn,.int .i64 (b2i ps)][o]?:=fun u=>((hW u).at HX3.out (fun h=>h)).cell
  simp only [PSt.head] at hau;simp only [PThread.cells] at hlu;clear hW
  repeat (refine mix_read rfl rfl ?_; go_big_quiet_step (fail); refine wpQuiet_nil ?_)
  refine mix_effC (.int .i64 (P.mem.ledTo pn ps t.work.time)) rfl rfl rfl ?_ ?_
  ·intro w' hw';go_simp;refine (LedTo_calls (H3.out.calm hw').mem pn ps t.work.time).mono ?_;rintro e w'' ⟨rfl,hF⟩;exact ⟨rfl,hw'.trans hF⟩
  go_simp
  repeat (refine mix_read rfl rfl ?_; go_big_quiet_step (fail); refine wpQuiet_nil ?_)
  refine mix_nil ?_;intro w4 hw4;have HF4:=(mkH (Fr (fun _=>False) w w4) <|HF3.out.trans hw4);have H4:=(mkH (ZAt own z w4 L P) <|H3.out.calm hw4);clear hau hlu hxu hw4 HF3 H3 HX3;obtain ⟨ha,haz,hal,_,_,_,_,_⟩:=H4.out.view HL.out Ht.out;simp only [PThread.cells] at ha;generalize P.mem.ledTo pn ps t.work.time = ah at HE2 ⊢;rcases HKD.out with h3 | h4
  ·rw [h3] at ha;go_wp2_with fail;refine (lookUp_calls H4.out HL.out Ht.out ah).mono ?_;rintro e w5 ⟨rfl,hZ⟩;have HZ:=(mkH (ZGoes own z w L _ w5) <|ZGoes.calm HF4.out hZ);clear hZ ha;go_wp2;go_ret;rw [HE2.out,if_neg (by simp),if_pos h3,HW.out];exact ⟨rfl,HZ.out⟩
  ·rw [h4] at ha;go_wp2_with fail;obtain ⟨q1,q2,q3⟩:=HK.out.2 h4;refine (scan_calls H4.out HK.out.1 HL.out Ht.out ah q1 q2 q3).mono ?_;rintro e w5 ⟨rfl,hZ⟩;have HZ:=(mkH (ZGoes own z w L _ w5) <|ZGoes.calm HF4.out hZ);clear hZ ha;go_wp2;go_ret;rw [HE2.out,if_neg (by simp),if_neg (by omega),HW.out];exact ⟨rfl,HZ.out⟩
 ·go_wp2;go_ret;rw [HE2.out,if_pos (by trivial)];exact ⟨rfl,ZGoes.calm HF3.out ⟨own,L,H3.out,Ext.refl _ _,Fr.refl _ _,rfl,rfl,rfl⟩⟩
theorem step_read {i : Nat} {t : PThread} (hkd : t.work.kind = 3\/t.work.kind = 4) (hn : 4<=t.work.next/\t.work.next<=12) : P.step i t = P.read i t.work:=by
 unfold PSt.step;split
 ·next h=>omega
 ·next h=>omega
 ·next h=>omega
 ·next h=>omega
 ·rw [if_pos hkd]
theorem ZStep_read (h : ZAt own z w L P) (hk : P.kind = 0\/P.kind = 1) {i : Nat} {t : PThread} (ht : P.ts[i]? = some t) (hb : t.busy = true) (hn : 1<=t.work.next/\t.work.next<=13) (hkd : t.work.kind = 3\/t.work.kind = 4) (hlk : t.work.kind = 4->4<=t.work.next/\t.work.next<=12->t.work.links.length<=2 ^ 39 + 1/\t.work.spans.length<=16/\t.work.noted.length<=2 ^ 39) :
  Calls Tryz.prog 54 #[.pointer (some ⟨L.s,0,none⟩),.int .i64 i] w fun e w'=>e = .returned (.tuple #[.int .i64 (P.step i t).2,.int .i64 0])/\ZGoes own z w L (P.step i t).1 w' :=
 ZStep_gen h ht hb hn true (by rcases hkd with h | h <;> rw [h] <;> rfl) (fun l hl hn'=>by
  rw [step_read hkd hn'];exact stepOfRead_calls h hk hl ht hkd (fun h4=>hlk h4 hn'))
end
end
section
open Go.RowKit
def opVal (kind key value : Int) (spans : Value) : Value:=.agg #[.int .i64 kind,.int .i64 key,.int .i64 value,spans]
def workV (k : PWork) (sp lk : Value) : List Value:=[.int .i64 k.kind,.int .i64 k.key,.int .i64 k.value,sp,.int .i64 k.next,.int .i64 k.time,.int .i64 k.stand,.int .i64 k.ahead,.int .i64 k.above,.int .i64 k.locks,
 .slice none 0 0,.int .i64 k.tsrc,.int .i64 (b2i k.tside),lk,.slice none 0 0,.int .i64 k.ans.err,.bool k.ans.did,.int .i64 k.ans.value,.int .i64 k.ans.stamp,.slice none 0 0]
theorem isKey_calls (k : Int) (w : World) : Calls Tryz.prog 76 #[.int .i64 k] w fun e w'=>e = .returned (.bool (isIn k 0 (2 ^ 40)))/\w' = w:=by
 go_enter Tryz.func76,Tryz.ntmps76
 go_wp2_with fail;refine (isWithin_calls k 0 1099511627776 _).mono ?_;rintro e w' ⟨rfl,rfl⟩;go_wp2;go_ret;exact ⟨rfl,rfl⟩
def spanOk (p : Int × Int) : Bool:=isIn p.1 0 (2 ^ 40) && (isIn p.2 0 (2 ^ 40) && decide (p.1<=p.2))
theorem spansOk_all : ∀ l : List (Int × Int),spansOkX l = l.all spanOk
 | []=>rfl
 | p :: r=>by unfold spansOkX; rw [spansOk_all r,List.all_cons]; unfold spanOk; cases isIn p.1 0 (2 ^ 40) <;> cases isIn p.2 0 (2 ^ 40) <;> rfl
theorem areSpans_calls (w : World) (a : Option Addr) (c : Nat) (ps : List (Int × Int)) (ha : PairsAt w a ps) :
  Calls Tryz.prog 77 #[.slice a ps.length c] w fun r w'=>r = .returned (.bool (isIn ps.length 1 16 && spansOkX ps))/\Fr (fun _=>False) w w':=by
 have HA:=(mkH (PairsAt w a ps) <|ha);clear ha;rw [spansOk_all];cases h16 : isIn ps.length 1 16
 ·go_enter Tryz.func77,Tryz.ntmps77
  go_wp2_with fail;refine (isWithin_calls ps.length 1 16 _).mono ?_;rintro e w' ⟨rfl,rfl⟩;rw [h16];go_wp2;go_ret;exact ⟨rfl,Fr.refl _ _⟩
 ·have hl : ps.length<=16:=by have:=(isIn_iff.1 h16).2; omega
  go_enter Tryz.func77,Tryz.ntmps77
  go_wp2_with fail;refine (isWithin_calls ps.length 1 16 _).mono ?_;rintro e w' ⟨rfl,rfl⟩;rw [h16];go_wp2
  go_loopw [10] (fun i wr=>∃ k : Nat,k<=ps.length/\i = .int .i64 k/\Hid ((ps.take k).all spanOk = true)/\Hid (Fr (fun _=>False) w' wr)) (fun i _=>ps.length - (intOf i).toNat)
  case atStart=>exact ⟨0,Nat.zero_le _,rfl,rfl,Fr.refl _ _⟩
  case round =>
   obtain ⟨k,hk,rfl,HO,HF⟩:=hrel;by_cases hlt : k < ps.length
   ·have hx : Hid (ps[k]? = some ps[k]):=List.getElem?_eq_getElem hlt;generalize ps[k] = x at hx;obtain ⟨g,rfl,c0,c1⟩:=(HA.out.calm HF.out) k x hx.out;have hbad : spanOk x = false->(ps.all spanOk) = false:=by
     intro hb;rw [List.all_eq_false];exact ⟨x,List.mem_of_getElem? hx.out,by rw [hb]; simp⟩
    have hgood : spanOk x = true->((ps.take (k + 1)).all spanOk) = true:=by
     intro hb;rw [List.take_add_one,hx.out,List.all_append,HO.out];simp [hb]
    have HBad:=(mkH (_->_) <|hbad);have HGood:=(mkH (_->_) <|hgood);clear hbad hgood;cases k1 : isIn x.1 0 (2 ^ 40)
    ·go_wp2_with fail
     go_quiet (refine Calls.quiet_of_same ((isKey_calls x.1 _).mono fun _ _ ⟨h1,h2⟩=>⟨by rw [h1,k1],h2⟩))
     go_wp2;go_ret;rw [HBad.out (by unfold spanOk; rw [k1]; rfl)];exact ⟨rfl,HF.out.drewN _⟩
    ·cases k2 : isIn x.2 0 (2 ^ 40)
     ·go_wp2_with fail
      go_quiet (first
       | (refine Calls.quiet_of_same ((isKey_calls x.1 _).mono fun _ _ ⟨h1,h2⟩=>⟨by rw [h1,k1],h2⟩))
       | (refine Calls.quiet_of_same ((isKey_calls x.2 _).mono fun _ _ ⟨h1,h2⟩=>⟨by rw [h1,k2],h2⟩)))
      go_wp2;go_ret;rw [HBad.out (by unfold spanOk; rw [k1,k2]; rfl)];exact ⟨rfl,HF.out.drewN _⟩
     ·cases k3 : decide (x.2 < x.1)
      ·have hng : ¬ x.2 < x.1:=by simpa using k3
       have HG:=(show Hid _ from HGood.out (by unfold spanOk; rw [k1,k2]; simp; omega));go_wp2_with fail
       go_quiet (first
        | (refine Calls.quiet_of_same ((isKey_calls x.1 _).mono fun _ _ ⟨h1,h2⟩=>⟨by rw [h1,k1],h2⟩))
        | (refine Calls.quiet_of_same ((isKey_calls x.2 _).mono fun _ _ ⟨h1,h2⟩=>⟨by rw [h1,k2],h2⟩)))
       go_wp2
       go_roundw
       case rel=>exact ⟨k + 1,by omega,by go_num,HG.out,HF.out.drewN _⟩
       case measure=>simp [intOf]; omega
      ·have hng : x.2 < x.1:=by simpa using k3
       go_wp2_with fail
       go_quiet (first
        | (refine Calls.quiet_of_same ((isKey_calls x.1 _).mono fun _ _ ⟨h1,h2⟩=>⟨by rw [h1,k1],h2⟩))
        | (refine Calls.quiet_of_same ((isKey_calls x.2 _).mono fun _ _ ⟨h1,h2⟩=>⟨by rw [h1,k2],h2⟩)))
       go_wp2;go_ret;rw [HBad.out (by unfold spanOk; rw [k1,k2]; simp; omega)];exact ⟨rfl,HF.out.drewN _⟩
   ·have hke : k = ps.length:=by omega
    subst hke;have hall : ps.all spanOk = true:=by have:=HO.out; rwa [List.take_length] at this
    go_wp2;go_ret;rw [hall];exact ⟨rfl,HF.out⟩
theorem checkOp_calls (kind key value : Int) (a : Option Addr) (n c : Nat) (ps : List (Int × Int)) (w : World) (hsp : kind = 4->n = ps.length/\PairsAt w a ps) :
  Calls Tryz.prog 63 #[opVal kind key value (.slice a n c)] w fun e w'=>e = .returned (.int .i64 (checkOp kind key ps))/\Fr (fun _=>False) w w':=by
 have hA:=(At.new w [.int .i64 kind,.int .i64 key,.int .i64 value,.slice a n c] 53).cell;have HF:=(mkH (Fr _ w (w.alloc _)) <|(Fr.refl (fun _=>False) w).alloc (.cells #[.int .i64 kind,.int .i64 key,.int .i64 value,.slice a n c] 53));unfold opVal;by_cases hk : kind = 1\/kind = 2\/kind = 3
 ·have HE : Hid (checkOp kind key ps = if isIn key 0 (2 ^ 40) then 0 else 5):=by show _ = _; unfold checkOp; rw [if_pos hk]
  clear hsp;cases hk0 : isIn key 0 (2 ^ 40)
  all_goals
   rw [hk0] at HE;rcases hk with rfl | rfl | rfl
  all_goals
   go_enter Tryz.func63,Tryz.ntmps63
   go_wp2_with fail;refine (isKey_calls key _).mono ?_;rintro e w' ⟨rfl,rfl⟩;rw [hk0];go_wp2;go_ret;rw [HE.out];exact ⟨rfl,HF.out⟩
 ·by_cases h4 : kind = 4
  ·obtain ⟨rfl,hP⟩:=hsp h4;subst h4;have HE : Hid (checkOp 4 key ps = if isIn ps.length 1 16 && spansOkX ps then 0 else 6):=rfl;have HP:=(mkH (PairsAt _ a ps) <|hP.calm HF.out);clear hP hsp hk
   go_enter Tryz.func63,Tryz.ntmps63
   go_wp2_with fail;refine (areSpans_calls _ a c ps HP.out).mono ?_;rintro e w' ⟨rfl,hF⟩;have HF2:=(mkH (Fr _ w w') <|HF.out.trans hF);clear hF hA;generalize (isIn ps.length 1 16 && spansOkX ps) = b at HE ⊢;cases b
   all_goals
    go_wp2;go_ret;rw [HE.out];exact ⟨rfl,HF2.out⟩
  ·have HE : Hid (checkOp kind key ps = 5):=by show _ = _; unfold checkOp; rw [if_neg hk,if_neg h4]
   have q1 : (kind == 1) = false:=by simp; omega
   have q2 : (kind == 2) = false:=by simp; omega
   have q3 : (kind == 3) = false:=by simp; omega
   have q4 : (kind == 4) = false:=by simp; omega
   clear hsp hk h4
   go_enter Tryz.func63,Tryz.ntmps63
   go_wp2;go_ret;rw [HE.out];exact ⟨rfl,HF.out⟩
theorem work_size : ∀ w : World,(sizeOf 116).run Tryz.prog w = .ok 20 w:=fun _=>by kernel_rfl
def wkOf (kind key value : Int) : PWork:={ PWork.zero with kind:=kind,key:=key,value:=value,next:=1 }
def wk0 (kind : Int) : List Value:=workV (wkOf kind 0 0) (.slice none 0 0) (.slice none 0 0)
def wkZ : List Value:=workV PWork.zero (.slice none 0 0) (.slice none 0 0)
theorem newWork_start (kind : Int) (oc : List Value) (w : World) : ∀ w1,w1 = ((((w.alloc (.cells oc.toArray 53)).alloc (.cells wkZ.toArray 116)).alloc (.cells wkZ.toArray 116)).setCells (w.heap.size + 2) 0 (wk0 kind)) ->
  At w1 w.heap.size oc 53/\At w1 (w.heap.size + 1) wkZ 116/\At w1 (w.heap.size + 2) (wk0 kind) 116/\Fr (fun _=>False) w w1:=by
 rintro w1 rfl;have hF : Fr (fun k=>k = w.heap.size + 2) (((w.alloc (.cells oc.toArray 53)).alloc (.cells wkZ.toArray 116)).alloc (.cells wkZ.toArray 116)) ((((w.alloc (.cells oc.toArray 53)).alloc (.cells wkZ.toArray 116)).alloc (.cells wkZ.toArray 116)).setCells (w.heap.size + 2) 0 (wk0 kind)):=Fr.setCells (S:=fun k=>k = w.heap.size + 2) rfl _ _ _ (Fr.refl _ _);refine ⟨hF.at (((At.new w oc 53).alloc _).alloc _) (by omega),hF.at ((At.newAt (by simp) _ _).alloc _) (by omega),?_,Fr.transNew ((((Fr.refl _ _).alloc _).alloc _).alloc _) hF (by rintro i rfl; right; omega)⟩;have h1:=At.setCells (wk0 kind) 0 (((w.alloc (.cells oc.toArray 53)).alloc (.cells wkZ.toArray 116)).alloc (.cells wkZ.toArray 116)) wkZ (b:=w.heap.size + 2) (e:=116) (At.newAt (by simp) _ _);have h2 : setAll wkZ 0 (wk0 kind) = wk0 kind:=by
  unfold wkZ wk0 workV;simp only [setAll,List.set_cons_zero,List.set_cons_succ]
 rw [h2] at h1;exact h1
theorem newWork_flat (kind key value : Int) (hk : kind = 1\/kind = 2\/kind = 3) (a : Option Addr) (n c : Nat) (w : World) :
  Calls Tryz.prog 64 #[opVal kind key value (.slice a n c)] w fun e w'=>e = .returned (.agg (workV (newWork kind key value []) (.slice none 0 0) (.slice none 0 0)).toArray)/\Fr (fun _=>False) w w':=by
 have hws:=work_size;have hag : ∀ w : World,(isAgg 116).run Tryz.prog w = .ok true w:=fun _=>by kernel_rfl
 unfold opVal;obtain ⟨nw,hnw⟩ : ∃ nw,newWork kind key value [] = nw:=⟨_,rfl⟩;rw [hnw];have HE : Hid (nw = if kind = 1 then wkOf 1 key value else wkOf kind key 0):=by
  show _ = _;rw [<- hnw];rcases hk with rfl | rfl | rfl <;> rfl
 clear hnw;rcases hk with rfl | rfl | rfl
 all_goals
  go_enter Tryz.func64,Tryz.ntmps64
  go_upto_region 2 with (refine wpList_storeAgg _ rfl _ _ 116 rfl (w.heap.size + 2) 0 (wk0 _) rfl rfl hws wkZ 116 (At.newAt (by simp) _ _) (by simp [wk0,wkZ,workV]) (by simp [wk0,workV,Value.oneCell']) ?_)
  generalize hw1 : World.setCells _ _ _ _ = w1;obtain ⟨h1,h2,h3,h4⟩:=newWork_start _ [_,.int .i64 key,.int .i64 value,.slice a n c] w w1 hw1.symm;have HO:=(mkH (At _ _ _ _) <|h1);have HR:=(mkH (At _ _ _ _) <|h2);have HV:=(mkH (At _ _ _ _) <|h3);have HFF:=(mkH (Fr _ w _) <|h4);clear hw1 h1 h2 h3 h4;have ho:=HO.out.cell;have hv:=HV.out.cell;have hvz:=HV.out.frozen;simp only [wk0,workV] at hv
  go_upto_region 16 with fail
  generalize hw2 : World.setCell _ _ _ = w2;have HV2 : Hid (At w2 (w.heap.size + 2) (workV nw (.slice none 0 0) (.slice none 0 0)) 116):=by
   subst hw2;show At _ _ _ _;rw [HE.out]
   first
    | exact (HV.out.set 1 (.int .i64 key)).set 2 (.int .i64 value)
    | exact HV.out.set 1 (.int .i64 key)
  have HR2 : Hid (At w2 (w.heap.size + 1) wkZ 116):=by
   subst hw2
   first
    | exact (HR.out.setOther ⟨w.heap.size + 2,1,none⟩ (by simp) (.int .i64 key)).setOther ⟨w.heap.size + 2,2,none⟩ (by simp) (.int .i64 value)
    | exact HR.out.setOther ⟨w.heap.size + 2,1,none⟩ (by simp) (.int .i64 key)
  have HF2 : Hid (Fr (fun _=>False) w w2):=by
   subst hw2;show Fr _ _ _
   repeat (with_reducible first | refine Fr.setNew (by omega) ?_ _ _ | exact HFF.out)
  clear hw2 ho hv hvz HO HR HV HFF HE;go_wp2_with (first
   | refine wpList_loadAgg w2 rfl _ 116 rfl (w.heap.size + 2) 0 (workV nw (.slice none 0 0) (.slice none 0 0)) rfl hag hws (by intro j v hv; rw [Nat.zero_add,HV2.out.cell]; exact hv) ?_
   | refine wpList_storeAgg w2 rfl _ _ 116 rfl (w.heap.size + 1) 0 (workV nw (.slice none 0 0) (.slice none 0 0)) rfl rfl hws _ _ HR2.out (by simp [wkZ,workV]) (by simp [workV,Value.oneCell']) ?_)
  have hA3:=At.setCells (workV nw (.slice none 0 0) (.slice none 0 0)) 0 w2 _ HR2.out;have h2 : setAll wkZ 0 (workV nw (.slice none 0 0) (.slice none 0 0)) = workV nw (.slice none 0 0) (.slice none 0 0):=by
   unfold wkZ workV;simp only [setAll,List.set_cons_zero,List.set_cons_succ]
  rw [h2] at hA3;refine bodyPost_ret (results_cellAgg (P:=Tryz.prog) (k:=2) (t:=116) rfl _ _ (w.heap.size + 1) 0 (workV nw (.slice none 0 0) (.slice none 0 0)) rfl hag hws (by intro j v hv; rw [Nat.zero_add,hA3.cell]; exact hv)) rfl ?_;refine ⟨rfl,?_⟩;exact Fr.transNew HF2.out (Fr.setCells (S:=fun k=>k = w.heap.size + 1) rfl _ _ _ (Fr.refl _ _)) (by rintro i rfl; right; omega)
end
end Go.Proofs.YtfccelbmacjifabGreat
