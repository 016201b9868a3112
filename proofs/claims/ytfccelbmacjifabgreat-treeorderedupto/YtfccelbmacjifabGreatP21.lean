import Derived.Test.YtfccelbmacjifabGreatP0
import Derived.Test.YtfccelbmacjifabGreatP12
import Derived.Deep.RegionLawGrows
import Derived.Test.YtfccelbmacjifabGreatP13
import Derived.Test.YtfccelbmacjifabGreatP20
import Derived.Test.YtfccelbmacjifabGreatP15
set_option linter.unusedSimpArgs false
set_option maxRecDepth 100000
set_option maxHeartbeats 4000000
namespace Go.Proofs.YtfccelbmacjifabGreat
section
open Go.RowKit
theorem push_runs {P : Program} (w : World) (t ty : TypeId) (base : Nat) (e : TypeId) (i : TypeInfo) (z : Value) (size bytes : Nat) (ht : P.underlying t = some (.slice e)) (hi : P.info? e = some i) (hz : i.zero = some z)
  (hsize : i.size = size) (hby : i.bytes = bytes) (hzs : z.cells.size = size) (hsz : 0 < size)
  (v : Value) (n : Nat) (xs : List Value) (hown : w.ownsRow base e size v n xs)
  (b : Nat) (news : List Value) (hl : news.length = size) (e' : TypeId) (hnews : At w b news e') (h1 : ∀ u ∈ news,u.oneCell' = true)
  (h63 : n + 1<=maxLen) (hbytes : (n + 1) * bytes<=140737488355328) (hbase : base<=w.heap.size) :
  ∃ g cap w',w'.ownsRow base e size (.slice (some ⟨g,0,none⟩) (n + 1) cap) (n + 1) (xs ++ news)/\w.grownBy w' v.ownBlock/\(v.ownBlock = some g\/w.heap.size<=g) /\
   ∀ (o : Oper) (a : Act) (s x : Operand),o.op = .call { callee:=.builtin .append,args:=#[s,x],argTypes:=#[t,t] }->o.type = ty->a.eval s = v->a.eval x = .slice (some ⟨b,0,none⟩) 1 1 ->
    runsTo P (fun w''=>w'' = w') (.slice (some ⟨g,0,none⟩) (n + 1) cap) ((execOp a.eval o).run P w):=by
 have hc : ∀ j u,news[j]? = some u->w.cell? ((⟨b,0,none⟩ : Addr).add j) = some u:=by
  intro j u hu; rw [Addr.add_lit,Nat.zero_add,hnews.cell]; exact hu
 rcases hown.2 with ⟨hv,hn⟩ | ⟨g,cap,cur,hv,hbg,hcur,hnc,hcm,hcs,htake⟩
 ·have hx0 : xs = []:=List.eq_nil_of_length_eq_zero (by rw [hown.1,hn]; simp);subst hn;subst hx0;subst hv;obtain ⟨v',w',hrun,r1,r2,_⟩:=run_append_own (P:=P) w w.heap.size t ty e i z size bytes ht hi hz hsize hby hzs hsz (.slice none 0 0) 0 [] (World.ownsRow_nil w _ e size) ⟨b,0,none⟩ 1 1 news (by rw [hl,Nat.one_mul]) hc h1 h63 hbytes (Nat.le_refl _);rcases r1.2 with ⟨_,h4⟩ | ⟨g',cap',cur',rfl,h5,h6,h7⟩
  ·omega
  ·refine ⟨g',cap',w',⟨r1.1,.inr ⟨g',cap',cur',rfl,by omega,h6,h7⟩⟩,⟨r2.os,r2.tape,r2.output,r2.size,fun k hk _=>r2.block k hk (by simp [Value.ownBlock])⟩,.inr h5,?_⟩;intro o a s x ho hty hs hx;subst hty;simp [execOp,ho,resolve,invoke,builtin,hs,hx,hrun,Result.andThen,runsTo]
 ·by_cases hroom : n + 1<=cap
  ·subst hv;obtain ⟨w',hrun,r1,r2⟩:=run_append_fits (P:=P) w base t ty e i size ht hi hsize g n cap xs hown ⟨b,0,none⟩ 1 1 news (by rw [hl,Nat.one_mul]) hc h1 hroom;refine ⟨g,cap,w',r1,r2,.inl rfl,?_⟩;intro o a s x ho hty hs hx;subst hty;simp [execOp,ho,resolve,invoke,builtin,hs,hx,hrun,Result.andThen,runsTo]
  ·subst hv;obtain ⟨v',w',hrun,r1,r2⟩:=run_append_arg_grows (P:=P) w t ty e i z size bytes ht hi hz hsize hby hzs hsz ⟨g,0,none⟩ n cap xs hown.1 (fun j u hu=>hown.cells (g:=g) rfl j u hu) ⟨b,0,none⟩ 1 1 news (by rw [hl,Nat.one_mul]) hc (by omega) h63 hbytes;rcases r1.2 with ⟨_,h4⟩ | ⟨g',cap',cur',rfl,h5,h6,h7⟩
   ·omega
   ·refine ⟨g',cap',w',⟨r1.1,.inr ⟨g',cap',cur',rfl,by omega,h6,h7⟩⟩,⟨r2.os,r2.tape,r2.output,r2.size,fun k hk _=>r2.block k hk (by simp)⟩,.inr h5,?_⟩;intro o a s x ho hty hs hx;subst hty;simp [execOp,ho,resolve,invoke,builtin,hs,hx,hrun,Result.andThen,runsTo]
end
section
open Go.RowKit
theorem Tryz.infoLk : (Tryz.prog.info? 113).map (fun i=>(i.zero,i.size,i.bytes)) = some (some (.agg #[.int .i64 0,.int .i64 0]),2,16):=by kernel_rfl
def nodeCells (x : PNode) : List Value:=[.int .i64 x.key,.int .i64 x.value,.bool x.dead,.bool x.retired,.int .i64 x.retiredAt,.bool x.used,.int .i64 x.holder,.int .i64 x.links,.int .i64 (x.leads false),.int .i64 (x.leads true)]
structure OwnLinks (w0 w : World) (v : Value) (ps : List (Int × Bool)) : Prop where
 row : w.ownsRow 0 113 2 v ps.length (ps.flatMap linkCells)
 new : ∀ k,v.ownBlock = some k->w0.heap.size<=k
 fr : Fr (fun _=>False) w0 w
theorem OwnLinks.calm {w0 w w' : World} {v : Value} {ps : List (Int × Bool)} (h : OwnLinks w0 w v ps) (hf : Fr (fun _=>False) w w') : OwnLinks w0 w' v ps:=⟨hf.owns h.row (fun _ _ h=>h),h.new,h.fr.trans hf⟩
section
variable {own : Own} {z : Nat} {w : World} {L : ZLay} {P : PSt}
theorem linksWithin_list (h : ZAt own z w L P) (hk : P.kind = 0) (n lo hi : Int) :
  Calls Tryz.prog 115 #[.pointer (some ⟨L.s,0,none⟩),.int .i64 n,.int .i64 lo,.int .i64 hi] w fun r w'=>∃ v,r = .returned v/\OwnLinks w w' v (P.linksWithin n lo hi):=by
 obtain ⟨iP,hiP,hzP,hsP,hbP⟩:=info_parts Tryz.infoLk;have HE : Hid (P.linksWithin n lo hi = if (P.mem.node n).key<=hi then [(n,false)] else []):=by show _ = _; unfold PSt.linksWithin; rw [if_pos hk]
 have hs:=h.hd.cell;simp only [PSt.head,hk] at hs;have H:=(mkH (ZAt own z w L P) <|h);have HK:=(mkH (P.kind = 0) <|hk);clear h hk
 go_enter Tryz.func115,Tryz.ntmps115
 go_wp2_with fail;refine (Node_calls H.out.mem n).mono ?_;rintro e w1 ⟨rfl,hF⟩;have H1:=(mkH (ZAt own z w1 L P) <|H.out.calm hF);have HF1:=(mkH (Fr _ w w1) <|hF);clear hF H hs;have hs:=H1.out.hd.cell;have hsl:=H1.out.hd.lt;simp only [PSt.head,HK.out] at hs;generalize P.mem.node n = x at HE;unfold nodeVal;by_cases hlt : x.key<=hi
 ·rw [if_pos hlt] at HE;go_wp2_with (at_builtin; refine wpList_push _ rfl _ _ 114 rfl 0 113 iP _ 2 16 Tryz.underlying114 hiP hzP hsP hbP rfl (by decide) (.slice none 0 0) 0 [] rfl (World.ownsRow_nil _ 0 _ _) (w1.heap.size + 1) [.int .i64 n,.int .i64 0] rfl rfl 113 (At.newAt (by simp) _ _) (by simp [Value.oneCell']) (by unfold maxLen; omega) (by omega) (by simp) ?_);intro g' cap w3 hown hgr hge;have HO3 : Hid (OwnLinks w w3 (.slice (some ⟨g',0,none⟩) 1 cap) [(n,false)]):=by
   refine ⟨by simpa [linkCells,b2i] using hown,?_,Fr.grown ((HF1.out.alloc _).alloc _) hgr (fun k hk=>by simp [Value.ownBlock] at hk)⟩;intro q hq;simp [Value.ownBlock] at hq;subst hq
   have:=HF1.out.size
   rcases hge with h | h
   ·simp [Value.ownBlock] at h
   ·first | omega | (simp at h; omega)
  clear hown hgr hge hs;go_wp2;go_ret;rw [HE.out];exact ⟨_,rfl,HO3.out⟩
 ·rw [if_neg hlt] at HE;go_wp2;go_ret;rw [HE.out];refine ⟨_,rfl,⟨by simp,.inl ⟨rfl,rfl⟩⟩,by intro k hk; simp [Value.ownBlock] at hk,?_⟩;exact HF1.out.alloc _
theorem linksWithin_tree (h : ZAt own z w L P) (hk : P.kind = 1) (n lo hi : Int) :
  Calls Tryz.prog 115 #[.pointer (some ⟨L.s,0,none⟩),.int .i64 n,.int .i64 lo,.int .i64 hi] w fun r w'=>∃ v,r = .returned v/\OwnLinks w w' v (P.linksWithin n lo hi):=by
 obtain ⟨iP,hiP,hzP,hsP,hbP⟩:=info_parts Tryz.infoLk;have HE : Hid (P.linksWithin n lo hi = (if (P.mem.node n).links == 2 && decide (lo < (P.mem.node n).key) then [(n,false)] else []) ++ (if (P.mem.node n).links == 2 && decide ((P.mem.node n).key<=hi) then [(n,true)] else [])):=by show _ = _; unfold PSt.linksWithin; rw [if_neg (by omega)]
 have hs:=h.hd.cell;simp only [PSt.head,hk] at hs;have H:=(mkH (ZAt own z w L P) <|h);have HK:=(mkH (P.kind = 1) <|hk);clear h hk
 go_enter Tryz.func115,Tryz.ntmps115
 go_wp2_with fail;refine (Node_calls H.out.mem n).mono ?_;rintro e w1 ⟨rfl,hF⟩;have H1:=(mkH (ZAt own z w1 L P) <|H.out.calm hF);have HF1:=(mkH (Fr _ w w1) <|hF);clear hF H hs;have hs:=H1.out.hd.cell;have hsl:=H1.out.hd.lt;simp only [PSt.head,HK.out] at hs;generalize P.mem.node n = x at HE;unfold nodeVal;go_wp2_with fail;generalize hw3 : World.alloc w1 _ = w3;have hF3 : Fr (fun _=>False) w1 w3:=by subst hw3; exact (Fr.refl _ _).alloc _
 have HX3 : Hid (At w3 w1.heap.size (nodeCells x) 131):=by subst hw3; exact At.new _ _ _
 clear hw3;refine (IsInner_calls x w3).mono ?_;rintro e w5 ⟨rfl,hF4⟩;have HF5:=(mkH (Fr (fun _=>False) w w5) <|HF1.out.trans (hF3.trans hF4));have HX5:=(mkH (At w5 w1.heap.size _ _) <|hF4.at HX3.out (fun h=>h));clear hF3 HX3 hF4 HF1 hs hsl H1;have hxc:=HX5.out.cell;simp only [nodeCells] at hxc;cases hin : (x.links == 2)
 ·have HE2 : Hid (P.linksWithin n lo hi = []):=by show _ = _; rw [HE.out,hin]; rfl
  clear HE;go_wp2_with fail;refine (IsInner_calls x w5).mono ?_;rintro e w7 ⟨rfl,hF7⟩;have HF7:=(mkH (Fr (fun _=>False) w w7) <|HF5.out.trans hF7);clear hF7 hxc;go_wp2;go_ret;rw [HE2.out];exact ⟨_,rfl,⟨by simp,.inl ⟨rfl,rfl⟩⟩,by intro k hk; simp [Value.ownBlock] at hk,HF7.out⟩
 ·by_cases hlo : lo < x.key
  ·go_wp2_with (at_builtin; refine wpList_push _ rfl _ _ 114 rfl 0 113 iP _ 2 16 Tryz.underlying114 hiP hzP hsP hbP rfl (by decide) (.slice none 0 0) 0 [] rfl (World.ownsRow_nil _ 0 _ _) w5.heap.size [.int .i64 n,.int .i64 0] rfl rfl 113 (At.newAt (by simp) _ _) (by simp [Value.oneCell']) (by unfold maxLen; omega) (by omega) (by simp) ?_);intro g' cap w6 hown hgr hge;have HO6 : Hid (OwnLinks w w6 (.slice (some ⟨g',0,none⟩) 1 cap) [(n,false)]):=by
    refine ⟨by simpa [linkCells,b2i] using hown,?_,Fr.grown (HF5.out.alloc _) hgr (fun k hk=>by simp [Value.ownBlock] at hk)⟩;intro q hq;simp [Value.ownBlock] at hq;subst hq
    have:=HF5.out.size
    rcases hge with h | h
    ·simp [Value.ownBlock] at h
    ·first | omega | (simp at h; omega)
   have HX6:=(mkH (At w6 w1.heap.size _ _) <|(HX5.out.alloc _).grown hgr (by simp [Value.ownBlock]));clear hown hgr hge hxc;have hxc:=HX6.out.cell;simp only [nodeCells] at hxc;go_wp2_with fail;refine (IsInner_calls x w6).mono ?_;rintro e w7 ⟨rfl,hF7⟩;have HO7:=(mkH (OwnLinks w w7 _ _) <|HO6.out.calm hF7);have HX7:=(mkH (At w7 w1.heap.size _ _) <|hF7.at HX6.out (fun h=>h));clear hF7 hxc HO6 HX6;have hxc:=HX7.out.cell;simp only [nodeCells] at hxc;rw [hin];by_cases hhi : x.key<=hi
   ·have HE2 : Hid (P.linksWithin n lo hi = [(n,false),(n,true)]):=by show _ = _; rw [HE.out,hin]; simp [hlo,hhi]
    clear HE;go_wp2_with (at_builtin; refine wpList_push _ rfl _ _ 114 rfl 0 113 iP _ 2 16 Tryz.underlying114 hiP hzP hsP hbP rfl (by decide) _ _ _ rfl (ownsRow_alloc HO7.out.row _) w7.heap.size [.int .i64 n,.int .i64 1] rfl rfl 113 (At.newAt (by simp) _ _) (by simp [Value.oneCell']) (by unfold maxLen; simp) (by simp) (by simp) ?_);intro g2 cap2 w8 hown hgr hge;have HO8 : Hid (OwnLinks w w8 (.slice (some ⟨g2,0,none⟩) 2 cap2) [(n,false),(n,true)]):=by
     refine ⟨by simpa [linkCells,b2i] using hown,?_,Fr.grown (HO7.out.fr.alloc _) hgr (fun k hk=>.inr (HO7.out.new k hk))⟩;intro q hq;simp [Value.ownBlock] at hq;subst hq
     have:=HO7.out.fr.size
     rcases hge with h | h
     ·exact HO7.out.new _ h
     ·first | omega | (simp at h; omega)
    clear hown hgr hge hxc;go_wp2;go_ret;rw [HE2.out];exact ⟨_,rfl,HO8.out⟩
   ·have HE2 : Hid (P.linksWithin n lo hi = [(n,false)]):=by show _ = _; rw [HE.out,hin]; simp [hlo,hhi]
    clear HE;go_wp2;go_ret;rw [HE2.out];exact ⟨_,rfl,HO7.out⟩
  ·go_wp2_with fail;refine (IsInner_calls x w5).mono ?_;rintro e w7 ⟨rfl,hF7⟩;have HF7:=(mkH (Fr (fun _=>False) w w7) <|HF5.out.trans hF7);have HX7:=(mkH (At w7 w1.heap.size _ _) <|hF7.at HX5.out (fun h=>h));clear hF7 hxc HX5;have hxc:=HX7.out.cell;simp only [nodeCells] at hxc;rw [hin];by_cases hhi : x.key<=hi
   ·have HE2 : Hid (P.linksWithin n lo hi = [(n,true)]):=by show _ = _; rw [HE.out,hin]; simp [hlo,hhi]
    clear HE;go_wp2_with (at_builtin; refine wpList_push _ rfl _ _ 114 rfl 0 113 iP _ 2 16 Tryz.underlying114 hiP hzP hsP hbP rfl (by decide) (.slice none 0 0) 0 [] rfl (World.ownsRow_nil _ 0 _ _) w7.heap.size [.int .i64 n,.int .i64 1] rfl rfl 113 (At.newAt (by simp) _ _) (by simp [Value.oneCell']) (by unfold maxLen; omega) (by omega) (by simp) ?_);intro g2 cap2 w8 hown hgr hge;have HO8 : Hid (OwnLinks w w8 (.slice (some ⟨g2,0,none⟩) 1 cap2) [(n,true)]):=by
     refine ⟨by simpa [linkCells,b2i] using hown,?_,Fr.grown (HF7.out.alloc _) hgr (fun k hk=>by simp [Value.ownBlock] at hk)⟩;intro q hq;simp [Value.ownBlock] at hq;subst hq
     have:=HF7.out.size
     rcases hge with h | h
     ·simp [Value.ownBlock] at h
     ·first | omega | (simp at h; omega)
    clear hown hgr hge hxc;go_wp2;go_ret;rw [HE2.out];exact ⟨_,rfl,HO8.out⟩
   ·have HE2 : Hid (P.linksWithin n lo hi = []):=by show _ = _; rw [HE.out,hin]; simp [hlo,hhi]
    clear HE;go_wp2;go_ret;rw [HE2.out];exact ⟨_,rfl,⟨by simp,.inl ⟨rfl,rfl⟩⟩,by intro k hk; simp [Value.ownBlock] at hk,HF7.out⟩
theorem linksWithin_calls (h : ZAt own z w L P) (hk : P.kind = 0\/P.kind = 1) (n lo hi : Int) :
  Calls Tryz.prog 115 #[.pointer (some ⟨L.s,0,none⟩),.int .i64 n,.int .i64 lo,.int .i64 hi] w fun r w'=>∃ v,r = .returned v/\OwnLinks w w' v (P.linksWithin n lo hi):=by
 rcases hk with e | e
 ·exact linksWithin_list h e n lo hi
 ·exact linksWithin_tree h e n lo hi
end
end
section
section
variable {P : Program} {ops : Array Oper} {md : Region.Mode} {C : Array Bool->World->Prop} {c : Nat} {K : Nat->Array Bool->Act->Prop}
def wpAnyT (P : Program) (md : Region.Mode) (ops : Array Oper) (C : Array Bool->World->Prop) (c : Nat) (K : Nat->Array Bool->Act->Prop) : Nat->Array Bool->Act->Prop
 | 0,_,_=>False
 | fuel + 1,listed,a=>Region.ready md ops listed≠[]/\∀ i ∈ Region.ready md ops listed,if i = c then K fuel listed a else lOp P ops md C i (wpAnyT P md ops C c K fuel (listed.setIfInBounds i true)) a
theorem wpOps_of_T {Q' : Exit->Act->World->Prop} (hK : ∀ fuel listed a w t,Closed md ops listed->c ∈ Region.ready md ops listed->C listed w->K fuel listed a->wpOps P ops Q' (c :: Region.linearise.go md ops fuel t (listed.setIfInBounds c true) []) a w) :
  ∀ (fuel t : Nat) (listed : Array Bool) (a : Act) (w : World),Closed md ops listed->C listed w->wpAnyT P md ops C c K fuel listed a->wpOps P ops Q' (Region.linearise.go md ops fuel t listed []) a w
 | 0,_,_,_,_,_,_,h=>h.elim
 | fuel + 1,t,listed,a,w,hc,hw,h=>by
  obtain ⟨h₀,h₁⟩:=h;simp only [Region.linearise.go]
  change wpOps P ops Q' (match (Region.ready md ops listed)[t % (Region.ready md ops listed).length]? with
   | some i=>Region.linearise.go md ops fuel (t / (Region.ready md ops listed).length) (listed.setIfInBounds i true) [i]
   | none=>[].reverse) a w
  cases hi : (Region.ready md ops listed)[t % (Region.ready md ops listed).length]? with
  | none =>
   exfalso;apply h₀;cases hr : Region.ready md ops listed with
   | nil=>rfl
   | cons x xs =>
    rw [hr] at hi;have hlt : t % (x :: xs).length < (x :: xs).length:=Nat.mod_lt _ (by simp);simp at hi;simp at hlt;omega
  | some i =>
   have hmem:=List.mem_of_getElem? hi;simp only [];rw [linearise_go_acc,List.reverse_singleton,List.singleton_append];have h2:=h₁ i hmem;by_cases hic : i = c
   ·rw [if_pos hic] at h2;subst hic;exact hK fuel listed a w _ hc hmem hw h2
   ·rw [if_neg hic] at h2;rw [wpOps_cons];exact wpOp_of_lOp hc hmem hw (fun a' w' hw' h'=>wpOps_of_T hK fuel _ _ a' w' (hc.set hmem) hw' h') h2
theorem wpAnyT_first {i : Nat} {oi : Oper} {v : Value} (hi : ops[i]? = some oi) (hsel : ∀ (j : Nat) (o : Oper) cs b,ops[j]? = some o->o.op≠.select cs b) (hic : i≠c)
  (hcw : ∀ listed,Closed md ops listed->c ∈ Region.ready md ops listed->i ∈ Region.ready md ops listed->False) :
  ∀ (fuel : Nat) (listed : Array Bool) (a : Act),Closed md ops listed ->
   (∀ j oj,ops[j]? = some oj->j≠i->listed.getD j true = false->(∀ e ∈ oj.after,Region.binds md e = true->e.on≠i)->oi.apart ops oj = true) ->
   i ∈ Region.ready md ops listed->YieldsL P ops md C i oi v a ->
   wpAnyT P md ops C c K fuel (listed.setIfInBounds i true) (a.put oi.dst v)->wpAnyT P md ops C c K (fuel + 1) listed a:=by
 intro fuel
 induction fuel with
 | zero=>intro listed a _ _ _ _ H; exact H.elim
 | succ fuel ih =>
  intro listed a hcl hfree hr hy H;refine ⟨fun h=>(by rw [h] at hr; cases hr),fun j hj=>?_⟩;by_cases hjc : j = c
  ·exact (hcw listed hcl (hjc ▸ hj) hr).elim
  ·rw [if_neg hjc];by_cases hji : j = i
   ·subst hji; exact hy.lOp hi H
   ·have h1:=H.2 j (ready_mono hj hji);rw [if_neg hjc] at h1;obtain ⟨hjun,oj,hoj,hall⟩:=mem_ready.1 hj;have hnot : ∀ e ∈ oj.after,Region.binds md e = true->e.on≠i:=fun e he hb heq=>by
     have h1:=hall e he hb;have h0:=(mem_ready.1 hr).1;rw [heq] at h1;rcases Nat.lt_or_ge i listed.size with h' | h'
     ·simp [h'] at h0 h1; rw [h0] at h1; cases h1
     ·simp [Array.getElem?_eq_none h'] at h1
    have h2:=lOp_put hoj (hfree j oj hoj hji hjun hnot) (fun cs b=>hsel i oi cs b hi) (fun cs b=>hsel j oj cs b hoj) hy h1;have hfree' : ∀ k ok,ops[k]? = some ok->k≠i->(listed.setIfInBounds j true).getD k true = false ->
      (∀ e ∈ ok.after,Region.binds md e = true->e.on≠i)->oi.apart ops ok = true:=fun k ok hk hki hun hno=>by
     refine hfree k ok hk hki ?_ hno;by_cases hjk : j = k
     ·subst hjk; exact hjun
     ·rw [getD_set_ne true hjk] at hun; exact hun
    refine lOp_mono (fun a' h3=>ih (listed.setIfInBounds j true) a' (hcl.set hj) hfree' (ready_mono hr (Ne.symm hji)) h3.1 ?_) h2;rw [Array.setIfInBounds_comm _ _ hji];exact h3.2
def listTo : Nat->Nat->Array Bool->Array Bool
 | 0,_,L=>L
 | n + 1,k,L=>listTo n (k + 1) (L.setIfInBounds k true)
def wpLexT (P : Program) (ops : Array Oper) (md : Region.Mode) (C : Array Bool->World->Prop) (T : List Oper->Act->Prop) : Nat->Nat->List Oper->Act->Prop
 | 0,_,l,a=>T l a
 | _ + 1,_,[],_=>False
 | n + 1,k,o :: rest,a=>∃ v,YieldsL P ops md C k o v a/\wpLexT P ops md C T n (k + 1) rest (a.put o.dst v)
def lateCovB (md : Region.Mode) (ops : Array Oper) (c : Nat) : Bool:=(List.range c).all fun i=>(List.range (c + 1)).any fun j=>decide (i < j) && waitsB md ops j i
theorem lateCov_spec (h : lateCovB md ops c = true) {listed : Array Bool} (hcl : Closed md ops listed) (hc : c ∈ Region.ready md ops listed) : ∀ d i,c - i = d->i < c->bit listed i = true:=by
 intro d
 induction d using Nat.strongRecOn with
 | _ d ih =>
  intro i hd hic;unfold lateCovB at h;rw [List.all_eq_true] at h;have h1:=h i (List.mem_range.2 hic);rw [List.any_eq_true] at h1;obtain ⟨j,hj,h2⟩:=h1;rw [List.mem_range] at hj;simp only [Bool.and_eq_true,decide_eq_true_eq] at h2;by_cases hjc : j = c
  ·subst hjc; exact bit_waits_ready h2.2 hc
  ·exact bit_waits hcl h2.2 (ih (c - j) (by omega) j rfl (by omega))
theorem wpAnyT_lex (hs : Region.noSelect ops = true) (hcov : lateCovB md ops c = true) (hcs : c < ops.size) {T : List Oper->Act->Prop} {L0 : Array Bool} : ∀ (n : Nat) (l : List Oper) (k : Nat) (listed : Array Bool) (a : Act),(∀ j,l[j]? = ops[k + j]?)->k + n = c->Closed md ops listed->listTo n k listed = L0 ->
  (∀ l' a',l'.length + n = l.length->T l' a'->Closed md ops L0->(∀ j,l'[j]? = ops[c + j]?)->wpAnyT P md ops C c K l'.length L0 a') ->
  Region.lexFrom md ops l.length k listed = true->wpLexT P ops md C T n k l a->wpAnyT P md ops C c K l.length listed a
 | 0,l,k,listed,a,hl,hk,hcl,hL,hT,hB,h=>by
  simp only [listTo] at hL;subst hL;have : k = c:=by omega
  subst this;exact hT l a (by omega) h hcl hl
 | n + 1,[],_,_,_,_,_,_,_,_,_,h=>h.elim
 | n + 1,o :: l,k,listed,a,hl,hk,hcl,hL,hT,hB,h=>by
  have h0 : ops[k]? = some o:=by simpa using (hl 0).symm
  have hksz : k < ops.size:=(Array.getElem?_eq_some_iff.1 h0).1;simp only [List.length_cons,Region.lexFrom,Bool.and_eq_true] at hB;obtain ⟨⟨hr,hf⟩,hB'⟩:=hB;have hr' : k ∈ Region.ready md ops listed:=by simpa using hr
  obtain ⟨v,hy,hK⟩:=h;refine wpAnyT_first h0 (Region.noSelect_spec hs) (by omega) ?_ l.length listed a hcl (Region.free_spec h0 hf) hr' hy
   (wpAnyT_lex hs hcov hcs n l (k + 1) _ _ (fun j=>by have:=hl (j + 1); simpa [Nat.add_assoc,Nat.add_comm 1 j] using this) (by omega) (hcl.set hr') hL (fun l' a' hn=>hT l' a' (by simp; omega)) hB' hK)
  intro listed' hcl' hc' hk';have h1:=lateCov_spec hcov hcl' hc' _ k rfl (by omega);rw [bit_ready hcl' hk' hksz] at h1;cases h1
def lateB (ops : Array Oper) (c b e : Nat) (L : Array Bool) : Bool :=
 (Region.ready .any ops L == [c,b]) && (Region.ready .any ops (L.setIfInBounds b true) == [c]) && (Region.ready .any ops (L.setIfInBounds c true) == [b]) &&
 (Region.ready .any ops ((L.setIfInBounds c true).setIfInBounds b true) == [e]) && (Region.ready .any ops ((L.setIfInBounds b true).setIfInBounds c true) == [e]) && !bit L b
def LateC (b : Nat) (w1 w2 : World) (listed : Array Bool) (w : World) : Prop:=w = if bit listed b then w2 else w1
def wpLate (P : Program) (ops : Array Oper) (S : World->Prop) (T : List Oper->Act->Prop) : Nat->List Oper->Act->Prop
 | 0,l,a=>T l a
 | _ + 1,[],_=>False
 | n + 1,o :: rest,a=>plainOp o.op = true/\if Region.wanted o (yielded ops a.tmps) then o.quiet P a S (wpLate P ops S T n rest) else wpLate P ops S T n rest (a.put o.dst undef)
theorem late_end {S : World->Prop} {T : List Oper->Act->Prop} {l : List Oper} {a : Act} (h : T l a) : wpLate P ops S T 0 l a:=h
theorem late_read {S : World->Prop} {T : List Oper->Act->Prop} {n : Nat} {o : Oper} {rest : List Oper} {a : Act} (hp : plainOp o.op = true) (h : wpQuiet P ops S (fun a'=>wpLate P ops S T n rest a') [o] a) : wpLate P ops S T (n + 1) (o :: rest) a:=by
 refine ⟨hp,?_⟩;unfold wpQuiet at h;split
 ·next hw=>rw [if_pos hw] at h; exact h
 ·next hw=>rw [if_neg hw] at h; exact h
theorem lex_of_late {S : World->Prop} {T : List Oper->Act->Prop} {c b : Nat} {w1 w2 : World} (hS : S w1/\S w2) (hcb : c<=b) : ∀ (n : Nat) (l : List Oper) (k : Nat) (a : Act),k + n = c->wpLate P ops S T n l a->wpLexT P ops md (LateC b w1 w2) T n k l a
 | 0,_,_,_,_,h=>h
 | n + 1,[],_,_,_,h=>h.elim
 | n + 1,o :: rest,k,a,hk,h=>by
  obtain ⟨hp,h⟩:=h;have hb : k≠b:=by omega
  have same : ∀ listed w',LateC b w1 w2 listed w'->LateC b w1 w2 (listed.setIfInBounds k true) w':=by
   intro listed w' h;unfold LateC at *;rw [bit_set_ne hb];exact h
  split at h
  ·next hw =>
   obtain ⟨v,hv,hK⟩:=h;refine ⟨v,.inl ⟨hw,?_⟩,lex_of_late hS hcb n rest (k + 1) _ (by omega) hK⟩;intro listed w' _ _ hC;have hq:=hv w' (by unfold LateC at hC; rw [hC]; split <;> first | exact hS.2 | exact hS.1);unfold Oper.quietAt at hq;generalize hres : (execOp a.eval o).run P w' = r at *;cases r with
   | ok n w1 =>
    cases n <;> simp only [Oper.quietUpon] at hq <;> simp only [runsTo]
    case value u=>exact ⟨hq.2,by rw [hq.1]; exact same _ _ hC⟩
    case skip=>exact ⟨hq.2,by rw [hq.1]; exact same _ _ hC⟩
    case enter f args=>exact absurd hres (plain_noEnter hp)
   | halt x w1=>simp only [Oper.quietUpon] at hq
  ·next hw =>
   refine ⟨undef,.inr ⟨by simpa using hw,rfl,?_⟩,lex_of_late hS hcb n rest (k + 1) _ (by omega) h⟩;intro listed w' _ _ hC;exact same _ _ hC
theorem go_single {L : Array Bool} {i : Nat} (h : Region.ready md ops L = [i]) (fuel t : Nat) : Region.linearise.go md ops (fuel + 1) t L [] = i :: Region.linearise.go md ops fuel t (L.setIfInBounds i true) []:=by
 show (match (Region.ready md ops L)[t % (Region.ready md ops L).length]? with
   | some i=>Region.linearise.go md ops fuel (t / (Region.ready md ops L).length) (L.setIfInBounds i true) [i]
   | none=>[].reverse) = _
 rw [h];have h1 : t % [i].length = 0:=by simp [Nat.mod_one]
 have h2 : t / [i].length = t:=by simp
 rw [h1,h2];show Region.linearise.go md ops fuel t (L.setIfInBounds i true) [i] = _;rw [linearise_go_acc,List.reverse_singleton,List.singleton_append]
theorem wpOps_three (Q : Exit->Act->World->Prop) {c b e : Nat} {oc ob oe : Oper} (hc : ops[c]? = some oc) (hb : ops[b]? = some ob) (he : ops[e]? = some oe) {a : Act} {w : World} :
  (wpOps P ops Q [c,b,e] a w = wpList P ops Q [oc,ob,oe] a w)/\(wpOps P ops Q [c,e] a w = wpList P ops Q [oc,oe] a w):=by
 constructor
 ·simp only [wpOps,hc,hb,he,wpList]
 ·simp only [wpOps,hc,he,wpList]
def lateEnd (P : Program) (ops : Array Oper) (Q : Exit->Act->World->Prop) (w1 w2 : World) (ptr : Value) : List Oper->Act->Prop
 | [oc,ob,oe],a=>ob.guard = none/\(execOp a.eval ob).run P w1 = .ok (.value ptr) w2/\wpList P ops Q [oc,ob,oe] a w1/\wpList P ops Q [oc,oe] (a.put ob.dst ptr) w2
 | _,_=>False
theorem wp_region_late {id : Nat} {Q : Exit->Act->World->Prop} {a : Act} {w : World} {l : List Oper} (c : Nat) (c0 : List Value) (T : TypeId) (hm : P.follows .mixedOrders = true) (hB : Region.lexB .any l.toArray = true)
  (hcov : lateCovB .any l.toArray c = true) (hlen : l.length = c + 3) (hlate : lateB l.toArray c (c + 1) (c + 2) (listTo c 0 (Array.replicate l.toArray.size false)) = true)
  (h : ∀ (U : Type) (W : U->World),Nonempty U->(∀ u,W u = w.drew\/W u = w.drew.alloc (.cells c0.toArray T)) ->
   wpLate P l.toArray (fun w'=>∃ u,w' = W u) (lateEnd P l.toArray Q w.drew (w.drew.alloc (.cells c0.toArray T)) (.pointer (some ⟨w.heap.size,0,none⟩))) c l a) : (Code.region id l.toArray true).wp P Q a w:=by
 refine wp_region_draw fun t=>?_
 simp only [Region.schedule,hm,Bool.true_or,if_true];have hBB:=hB;simp only [Region.lexB,Bool.and_eq_true] at hBB;have hW:=h Bool (fun u=>if u then w.drew else w.drew.alloc (.cells c0.toArray T)) ⟨true⟩ (fun u=>by cases u <;> simp);have hL:=lex_of_late (c:=c) (md:=.any) (b:=c + 1) (w1:=w.drew) (w2:=w.drew.alloc (.cells c0.toArray T)) ⟨⟨true,by simp⟩,⟨false,by simp⟩⟩ (by omega) c l 0 a (by omega) hW;have hsz : l.toArray.size = c + 3:=by simpa using hlen
 unfold lateB at hlate;simp only [Bool.and_eq_true,beq_iff_eq,Bool.not_eq_true'] at hlate;obtain ⟨⟨⟨⟨⟨r1,r2⟩,r3⟩,r4⟩,r5⟩,r6⟩:=hlate
 let K : Nat->Array Bool->Act->Prop:=fun fuel listed a=>∀ t w',LateC (c + 1) w.drew (w.drew.alloc (.cells c0.toArray T)) listed w'->wpOps P l.toArray Q (c :: Region.linearise.go .any l.toArray fuel t (listed.setIfInBounds c true) []) a w'
 have hA:=wpAnyT_lex (P:=P) (C:=LateC (c + 1) w.drew (w.drew.alloc (.cells c0.toArray T))) (K:=K)
  hBB.1 hcov (by omega) c l 0 (Array.replicate l.toArray.size false) a (by simp) (by omega) (Closed.start _ _) rfl ?_ (by simpa using hBB.2) hL
 ·have:=wpOps_of_T (C:=LateC (c + 1) w.drew (w.drew.alloc (.cells c0.toArray T))) (K:=K) (c:=c) (fun fuel listed a w' t _ _ hC hK=>hK t w' hC) l.toArray.size t (Array.replicate l.toArray.size false) a w.drew (Closed.start _ _) (by
   unfold LateC bit;simp only [Array.getD_eq_getD_getElem?,Array.getElem?_replicate];split <;> simp) (by simpa using hA)
  exact this
 ·intro l' a' hlen' hT hcl hl';have hl3 : l'.length = 3:=by omega
  obtain ⟨oc,ob,oe,rfl⟩ : ∃ oc ob oe,l' = [oc,ob,oe]:=by
   cases l' with
   | nil=>simp at hl3
   | cons x l1=>cases l1 with
    | nil=>simp at hl3
    | cons y l2=>cases l2 with
     | nil=>simp at hl3
     | cons u l3=>cases l3 with
      | nil=>exact ⟨_,_,_,rfl⟩
      | cons _ _=>simp at hl3
  ·clear hL hW hB hBB hcov;obtain ⟨hg,hrun,h1,h2⟩:=hT;have ho0 : l.toArray[c]? = some oc:=by simpa using (hl' 0).symm
   have ho1 : l.toArray[c + 1]? = some ob:=by simpa using (hl' 1).symm
   have ho2 : l.toArray[c + 2]? = some oe:=by simpa using (hl' 2).symm
   generalize listTo c 0 (Array.replicate l.toArray.size false) = L at *;have hLs:=hcl.size;have bL1 : bit (L.setIfInBounds (c + 1) true) (c + 1) = true:=bit_set_same (by omega);show wpAnyT P .any l.toArray _ c _ 3 L a';unfold wpAnyT;refine ⟨by rw [r1]; simp,?_⟩;intro i hi;rw [r1] at hi;simp only [List.mem_cons,List.not_mem_nil,or_false] at hi;by_cases hic : i = c
   ·rw [if_pos hic];intro t w' hC;unfold LateC at hC;rw [r6] at hC;simp only [Bool.false_eq_true,if_false] at hC;subst hC;have hgo : Region.linearise.go .any l.toArray 2 t (L.setIfInBounds c true) [] = [c + 1,c + 2]:=by
     rw [go_single r3,go_single r4]; rfl
    rw [hgo,(wpOps_three Q ho0 ho1 ho2).1];exact h1
   ·rw [if_neg hic];have hib : i = c + 1:=by omega
    subst hib;refine YieldsL.lOp (v:=.pointer (some ⟨w.heap.size,0,none⟩)) ho1 (.inl ⟨by simp [Region.wanted,hg],?_⟩) ?_
    ·intro listed w' hcl' hrd hC;have hb0:=bit_ready hcl' hrd (by omega);unfold LateC at hC;rw [hb0] at hC;simp only [Bool.false_eq_true,if_false] at hC;subst hC;rw [hrun];refine ⟨rfl,?_⟩;unfold LateC;rw [bit_set_same (by rw [hcl'.size]; omega)]
     rfl
    ·unfold wpAnyT;refine ⟨by rw [r2]; simp,?_⟩;intro i hi;rw [r2] at hi;simp only [List.mem_cons,List.not_mem_nil,or_false] at hi;subst hi;rw [if_pos rfl];intro t w' hC;unfold LateC at hC;rw [bL1] at hC;simp only [if_true] at hC;subst hC;have hgo : Region.linearise.go .any l.toArray 1 t ((L.setIfInBounds (i + 1) true).setIfInBounds i true) [] = [i + 2]:=by
      rw [go_single r5]; rfl
     rw [hgo,(wpOps_three Q ho0 ho1 ho2).2];exact h2
end
end
end Go.Proofs.YtfccelbmacjifabGreat
