import Derived.Test.YtfccelbmacjifaaGreatP0
import Derived.Test.YtfccelbmacjifaaGreatP29
import Derived.Test.YtfccelbmacjifaaGreatP30
import Derived.Test.YtfccelbmacjifaaGreatP15
set_option linter.unusedSimpArgs false
set_option maxRecDepth 100000
set_option maxHeartbeats 4000000
namespace Go.Proofs.YtfccelbmacjifaaGreat
section
open Go.RowKit
def DSl (d : DeedV) : Prop:=∃ sa sn sc la ln lc,d.op.sv = .slice sa sn sc/\d.av = .slice la ln lc
section
variable {own : Own} {z : Nat} {w w' : World} {pb : Nat} {D : PlD} {N E L T : Int}
theorem tookD_eq (d : DeedV) : ((d.op.kind == 1 || d.op.kind == 2) && d.a.did) = tookD d:=by
 unfold tookD
 congr 1
 by_cases h1 : d.op.kind = 1
 ·simp [h1]
 ·by_cases h2 : d.op.kind = 2
  ·simp [h2]
  ·simp [h1,h2]
theorem tookD_calls (d : DeedV) (hd : DSl d) (w : World) :
  Calls Tryz.prog 60 #[.agg d.cells.toArray] w fun r w'=>r = .returned (.bool (tookD d))/\Fr (fun _=>False) w w':=by
 obtain ⟨sa,sn,sc,la,ln,lc,h1,h2⟩:=hd;rw [<- tookD_eq];exact took_calls d.op.kind d.op.key d.op.value d.op.sv d.a.err d.a.did d.a.value d.a.stamp d.av d.frm w sa la sn sc ln lc h1 h2
theorem ahead_calls (a b : DeedV) (ha : DSl a) (hb : DSl b) (w : World) :
  Calls Tryz.prog 102 #[.agg a.cells.toArray,.agg b.cells.toArray] w fun r w'=>r = .returned (.bool (aheadD a b))/\Fr (fun _=>False) w w':=by
 have HTa:=(mkH (∀ w,Calls Tryz.prog 60 #[.agg a.cells.toArray] w _) <|fun w=>tookD_calls a ha w);have HTb:=(mkH (∀ w,Calls Tryz.prog 60 #[.agg b.cells.toArray] w _) <|fun w=>tookD_calls b hb w);have HD : Hid (aheadD a b = if a.a.stamp≠b.a.stamp then decide (a.a.stamp < b.a.stamp) else (tookD a && !tookD b)):=rfl;obtain ⟨sa,sn,sc,la,ln,lc,h1,h2⟩:=ha;obtain ⟨sa',sn',sc',la',ln',lc',h3,h4⟩:=hb;simp only [DeedV.cells,h1,h2,h3,h4] at HTa HTb ⊢;generalize tookD a = ta at *;generalize tookD b = tb at *;generalize aheadD a b = ab at *;generalize a.op.kind = ak at *;generalize a.op.key = ak1 at *;generalize a.op.value = ak2 at *;generalize a.a.err = a1 at *;generalize a.a.did = a2 at *;generalize a.a.value = a3 at *;generalize a.a.stamp = a4 at *;generalize a.frm = a5 at *;generalize b.op.kind = bk at *;generalize b.op.key = bk1 at *;generalize b.op.value = bk2 at *;generalize b.a.err = b1 at *;generalize b.a.did = b2 at *;generalize b.a.value = b3 at *;generalize b.a.stamp = b4 at *;generalize b.frm = b5 at *;clear h1 h2 h3 h4
 go_enter Tryz.func102,Tryz.ntmps102
 by_cases hs : a4 = b4
 ·subst hs;have hs' : (a4 != a4) = false:=by simp
  go_wp2_with fail;refine Calls.mono (HTa.out _) ?_;rintro r w1 ⟨rfl,hF1⟩;have HA:=(mkH (At w1 w.heap.size [.int .i64 ak,.int .i64 ak1,.int .i64 ak2,.slice sa sn sc,.int .i64 a1,.bool a2,.int .i64 a3,.int .i64 a4,.slice la ln lc,.int .i64 a5] 97) <|hF1.at ((At.new w _ _).alloc _) (fun h=>h));have HB:=(mkH (At w1 (w.heap.size + 1) [.int .i64 bk,.int .i64 bk1,.int .i64 bk2,.slice sa' sn' sc',.int .i64 b1,.bool b2,.int .i64 b3,.int .i64 a4,.slice la' ln' lc',.int .i64 b5] 97) <|hF1.at (At.newAt (by simp) _ _) (fun h=>h));have HF1:=(mkH (Fr (fun _=>False) w w1) <|(((Fr.refl _ _).alloc _).alloc _).trans hF1);clear hF1 HTa;have hbc:=HB.out.cell;go_wp2_with fail;refine Calls.mono (HTb.out _) ?_;rintro r w2 ⟨rfl,hF2⟩;have HF2:=(mkH (Fr (fun _=>False) w w2) <|HF1.out.trans hF2);clear hF2 HTb hbc;have HR : Hid (ab = (ta && !tb)):=by show _ = _; rw [HD.out]; simp
  cases ta
  ·go_wp2;go_ret;exact ⟨by rw [HR.out]; rfl,HF2.out⟩
  ·go_wp2;go_ret;exact ⟨by rw [HR.out]; cases tb <;> rfl,HF2.out⟩
 ·have hs' : (a4 != b4) = true:=by simpa using hs
  have HR : Hid (ab = decide (a4 < b4)):=by show _ = _; rw [HD.out,if_pos hs]
  clear hs;go_wp2;go_ret;exact ⟨by rw [HR.out]; rfl,((Fr.refl _ _).alloc _).alloc _⟩
theorem refused_calls (hP : PlAt own z w pb D) (hc : D.k = 0/\D.t = T/\D.n = N/\D.e = E/\D.l = L) (hp : 0<=D.puts/\D.puts<=2 ^ 37) (ht : 0<=D.takes/\D.takes<=2 ^ 37) (d : DeedV) (hd : d ∈ D.deeds) (hs : d.op.kind = 4->d.op.spans.length<=16) (he : okE N E L D.puts D.takes d) :
  Calls Tryz.prog 101 #[pv pb,.agg d.cells.toArray] w fun r w'=>r = .returned (.bool true)/\Fr (fun _=>False) w w':=by
 obtain ⟨c1,c2,c3,c4,c5⟩:=hc;have hdk:=hP.dok d hd;obtain ⟨xa,xc,hsv⟩:=ownsShape hdk.1.row;obtain ⟨hda,hcase⟩:=he;have hsp : d.a.spans = []:=by rw [hda]
 have hav : d.av = .slice none 0 0:=hdk.2.1.nil hsp;have HSame:=(mkH (∀ w',Calls Tryz.prog 59 #[ansV { err:=d.a.err } (.slice none 0 0),ansV { err:=d.a.err } (.slice none 0 0)] w' _) <|fun w'=>sameAnswers_nil { err:=d.a.err } w');have e1 : d.a.did = false:=by rw [hda]
 have e2 : d.a.value = 0:=by rw [hda]
 have e3 : d.a.stamp = 0:=by rw [hda]
 simp only [DeedV.cells,hsv,hav,e1,e2,e3];simp only [ansV] at HSame;have ha:=hP.at_;simp only [PlD.cells,c1,c3,c4,c5,pv] at ha;obtain ⟨⟨kd,ky,va,sp,sv⟩,⟨er,did,va',st,sps⟩,av,fr⟩:=d;simp only at HSame hcase hs hsv e1 e2 e3 ⊢;generalize D.puts = puts at *;generalize D.takes = takes at *;clear hdk hd hP hda hav hsv hsp c1 c2 c3 c4 c5 e1 e2 e3;have HU:=(mkH (∀ w,Calls Tryz.prog 54 #[opVal kd ky va (.slice xa sp.length xc)] w _) <|fun w=>isUpdate_calls kd ky va (.slice xa sp.length xc) w);unfold opVal at HU;have HC:=(show Hid _ from hcase);have HSp:=(mkH (kd = 4->sp.length<=16) <|hs);have HA:=(mkH (At w pb _ 80) <|ha);clear hcase ha hs;unfold pv
 go_enter Tryz.func101,Tryz.ntmps101
 go_wp2_with fail;refine Calls.mono (HSame.out _) ?_;rintro r w1 ⟨rfl,hF1⟩;have HB:=(mkH (At w1 w.heap.size [.int .i64 kd,.int .i64 ky,.int .i64 va,.slice xa sp.length xc,.int .i64 er,.bool false,.int .i64 0,.int .i64 0,.slice none 0 0,.int .i64 fr] 97) <|hF1.at (At.new w _ _) (fun h=>h));have HF1:=(mkH (Fr (fun _=>False) w w1) <|((Fr.refl _ _).alloc _).trans hF1);clear hF1 HSame;have hbc:=HB.out.cell;go_wp2_with fail;refine Calls.mono (HU.out _) ?_;rintro r w2 ⟨rfl,hF2⟩;have HF2:=(mkH (Fr (fun _=>False) w w2) <|HF1.out.trans hF2);have hbc:=(hF2.at HB.out (fun h=>h)).cell;have ha:=(HF2.out.at HA.out (fun h=>h)).cell;clear hF2 HU HA HB HF1;rcases HC.out with ⟨e7,hk,hu⟩ | ⟨e8,hk,hu⟩ | ⟨e9,hk,hu⟩
 ·subst e7;have hb : (kd == 1 || kd == 2) = true:=by simpa using hk
  rw [hb];have HUu:=(show Hid _ from hu);clear hk hb HC hu;have HF4:=(mkH (Fr (fun _=>False) w w2.drew.drew) <|HF2.out.drew.drew);go_wp2_with fail;go_region;go_wp2_with fail;go_region;by_cases h1 : N < puts
  ·have h1' : decide (puts > N) = true:=by simpa using h1
   clear h1;go_wp2;go_ret;exact ⟨rfl,HF4.out⟩
  ·have h1' : decide (puts > N) = false:=by simpa using h1
   have h2 : E < 1 + puts * 2 + takes:=by have:=HUu.out; omega
   have h2' : decide (1 + puts * 2 + takes > E) = true:=by simpa using h2
   clear h1 h2;go_wp2;go_ret;exact ⟨rfl,HF4.out⟩
 ·subst e8;have hb : (kd == 1 || kd == 2) = true:=by simpa using hk
  rw [hb];have hu' : decide (puts + takes > L) = true:=by simpa using hu
  clear hk hb HC hu;have HF4:=(mkH (Fr (fun _=>False) w w2.drew) <|HF2.out.drew);go_wp2_with fail;go_region;go_wp2;go_ret;exact ⟨rfl,HF4.out⟩
 ·subst e9;have hs:=HSp.out hk;subst hk;have h3 : (sp.length : Int) * puts<=16 * 2 ^ 37:=by
   have:=Int.mul_le_mul (show (sp.length : Int)<=16 by omega) hp.2 hp.1 (by omega)
   exact this
  have h4 : (0 : Int)<=(sp.length : Int) * puts:=Int.mul_nonneg (by omega) hp.1;have hu' : decide ((sp.length : Int) * puts > 64) = true:=by simpa using hu
  clear hu HC;have HF4:=(mkH (Fr (fun _=>False) w w2.drew) <|HF2.out.drew);go_wp2_with fail;go_region;go_wp2;go_ret;exact ⟨rfl,HF4.out⟩
end
end
section
open Go.RowKit
def plc (p : DeedV × Nat) : List Value:=p.1.cells ++ [.int .i64 p.2]
theorem plc_len (p : DeedV × Nat) : (plc p).length = 11:=rfl
structure LRow (W w : World) (v : Value) (l : List (DeedV × Nat)) : Prop where
 row : w.ownsRow 0 158 11 v l.length (l.flatMap plc)
 new : ∀ k,v.ownBlock = some k->W.heap.size<=k
 fr : Fr (fun _=>False) W w
section
variable {W w w' : World} {v : Value} {l A B : List (DeedV × Nat)}
theorem setAll_skip (X : List Value) : ∀ (vs Y : List Value) (o : Nat),setAll (X ++ Y) (X.length + o) vs = X ++ setAll Y o vs
 | [],Y,o=>rfl
 | v :: r,Y,o=>by
  show setAll ((X ++ Y).set (X.length + o) v) (X.length + o + 1) r = X ++ setAll (Y.set o v) (o + 1) r;rw [List.set_append_right _ _ (Nat.le_add_right _ _),show X.length + o - X.length = o by omega,Nat.add_assoc];exact setAll_skip X r (Y.set o v) (o + 1)
theorem setAll_zero : ∀ (vs Z Y : List Value),Z.length = vs.length->setAll (Z ++ Y) 0 vs = vs ++ Y
 | [],[],Y,_=>rfl
 | [],z :: Z,Y,h=>by simp at h
 | v :: r,[],Y,h=>by simp at h
 | v :: r,z :: Z,Y,h=>by
  show setAll (v :: (Z ++ Y)) 1 r = v :: (r ++ Y)
  have:=setAll_skip [v] r (Z ++ Y) 0
  simp only [List.length_singleton,List.singleton_append,Nat.add_zero] at this;rw [this,setAll_zero r Z Y (by simpa using h)]
theorem flat_len : ∀ (l : List (DeedV × Nat)),(l.flatMap plc).length = l.length * 11
 | []=>rfl
 | x :: l=>by rw [List.flatMap_cons,List.length_append,flat_len l,plc_len,List.length_cons]; omega
theorem setAll_flat (A B : List (DeedV × Nat)) (x y : DeedV × Nat) : setAll ((A ++ x :: B).flatMap plc) (A.length * 11) (plc y) = (A ++ y :: B).flatMap plc:=by
 rw [List.flatMap_append,List.flatMap_append,List.flatMap_cons,List.flatMap_cons,<- flat_len A]
 have:=setAll_skip (A.flatMap plc) (plc y) (plc x ++ B.flatMap plc) 0
 rw [Nat.add_zero] at this;rw [this,setAll_zero _ _ _ (by rw [plc_len,plc_len])]
theorem ownsRow_setCells {e : TypeId} {size g n cap : Nat} : ∀ (vs : List Value) (o : Nat) (w : World) (xs : List Value),w.ownsRow 0 e size (.slice (some ⟨g,0,none⟩) n cap) n xs->(w.setCells g o vs).ownsRow 0 e size (.slice (some ⟨g,0,none⟩) n cap) n (setAll xs o vs)
 | [],_,_,_,h=>h
 | v :: r,o,_,_,h=>ownsRow_setCells r (o + 1) _ _ (ownsRow_set h o v)
theorem ownsRow_at {e : TypeId} {size g n cap : Nat} {xs : List Value} (h : w.ownsRow 0 e size (.slice (some ⟨g,0,none⟩) n cap) n xs) : ∃ c,At w g c e/\n * size<=c.length:=by
 rcases h.2 with ⟨h2,_⟩ | ⟨g',cap',cur,hv,hg,hh,h3,h4,h5,h6⟩
 ·cases h2
 ·simp only [Value.slice.injEq,Option.some.injEq,Addr.mk.injEq,and_true,true_and] at hv;obtain ⟨rfl,rfl⟩:=hv;refine ⟨cur.toList,by unfold At; rw [hh],?_⟩;rw [Array.length_toList,h5];exact Nat.mul_le_mul_right _ h3
theorem LRow.none (W : World) : LRow W W (.slice none 0 0) []:=⟨⟨by simp,.inl ⟨rfl,rfl⟩⟩,by intro k hk; simp [Value.ownBlock] at hk,Fr.refl _ _⟩
theorem LRow.calm (h : LRow W w v l) (hf : Fr (fun _=>False) w w') : LRow W w' v l:=⟨hf.owns h.row (fun _ _ h=>h),h.new,h.fr.trans hf⟩
theorem only_store {P : Program} {ops : Array Oper} {Q : Exit->Act->World->Prop} {dst : Option Tmp} {t ty : TypeId} {p x : Operand} {pos : String} {af : Array Edge} {gd : Option (Nat × Bool)} {rest : List Oper} {a : Act} {w : World} (h : Hid (wpList P ops Q (⟨dst,.store t p x,ty,pos,af,gd⟩ :: rest) a w)) : wpList P ops Q (⟨dst,.store t p x,ty,pos,af,gd⟩ :: rest) a w:=h.out
theorem LRow.cells (h : LRow W w v l) (hl : l≠[]) : ∃ g c,v = .slice (some ⟨g,0,Option.none⟩) l.length c/\W.heap.size<=g/\g < w.heap.size/\(∀ o,w.frozen? ⟨g,o,Option.none⟩ = false)/\(∃ cs,At w g cs 158/\l.length * 11<=cs.length)/\∀ (k : Nat) x,l[k]? = some x->∀ q u,(plc x)[q]? = some u->w.cell? ⟨g,k * 11 + q,Option.none⟩ = some u:=by
 have hn : l.length≠0:=fun q=>hl (List.length_eq_zero_iff.1 q)
 obtain ⟨g,c,hv,_⟩:=ownsRow_shape h.row hn;have hr:=h.row;rw [hv] at hr;obtain ⟨cs,h1,h2⟩:=ownsRow_at hr;refine ⟨g,c,hv,h.new g (by rw [hv]; rfl),h1.lt,ownsRow_frozen hr,⟨cs,h1,h2⟩,?_⟩;intro k x hx q u hq;exact ownsRow_cell hr ((tab_get plc 11 plc_len l k q x hx (by have:=(List.getElem?_eq_some_iff.1 hq).1; simpa [plc_len] using this)).trans hq)
theorem LRow.put {g c : Nat} {x y : DeedV × Nat} (h : LRow W w (.slice (some ⟨g,0,Option.none⟩) (A ++ x :: B).length c) (A ++ x :: B)) : LRow W (w.setCells g (A.length * 11) (plc y)) (.slice (some ⟨g,0,Option.none⟩) (A ++ y :: B).length c) (A ++ y :: B):=by
 have hl : (A ++ y :: B).length = (A ++ x :: B).length:=by simp
 refine ⟨?_,?_,?_⟩
 ·rw [<- setAll_flat A B x y,hl];exact ownsRow_setCells _ _ _ _ h.row
 ·intro k hk;exact h.new k (by rw [hl] at hk; exact hk)
 ·have hg:=h.new g rfl;have : ∀ (vs : List Value) (o : Nat) (w1 : World),Fr (fun _=>False) W w1->Fr (fun _=>False) W (w1.setCells g o vs):=by
   intro vs
   induction vs with
   | nil=>intro _ _ q; exact q
   | cons v r ih=>intro o w1 q; exact ih (o + 1) _ (Fr.setNew hg q o v)
  exact this _ _ _ h.fr
end
end
section
open Go.RowKit
theorem Tryz.infoPlc : (Tryz.prog.info? 158).map (fun i=>(i.zero,i.size,i.bytes)) = some (some (.agg #[.int .i64 0,.int .i64 0,.int .i64 0,.slice none 0 0,.int .i64 0,.bool false,.int .i64 0,.int .i64 0,.slice none 0 0,.int .i64 0,.int .i64 0]),11,120):=by kernel_rfl
theorem Tryz.plc_size : ∀ w : World,(sizeOf 158).run Tryz.prog w = .ok 11 w:=fun _=>by kernel_rfl
theorem proper_spans {ky : Int} {sp : List (Int × Int)} (h : properB 4 ky sp = true) : sp.length<=16:=by
 have h0 : checkOp 4 ky sp = 0:=of_decide_eq_true h;unfold checkOp at h0;rw [if_neg (by decide),if_pos rfl] at h0;have hk : (isIn sp.length 1 16 && spansOkX sp) = true:=by
  cases hh : (isIn sp.length 1 16 && spansOkX sp)
  ·rw [hh] at h0; exact absurd h0 (by decide)
  ·rfl
 rw [Bool.and_eq_true,isIn_iff] at hk;omega
theorem OrdL.len {ds : List DeedV} {i : Nat} {l : List (DeedV × Nat)} (h : OrdL ds i l) : l.length<=i:=by
 have hn : (l.map (·.2)).Nodup:=by
  rw [List.nodup_iff_pairwise_ne,List.pairwise_map];refine h.srt.imp_of_mem ?_;intro a b ha hb hab e;obtain ⟨_,a2,_⟩:=(h.mem a.1 a.2).1 ha;obtain ⟨_,b2,_⟩:=(h.mem b.1 b.2).1 hb;rw [e,b2] at a2;injection a2 with a2
  rw [a2] at hab;omega
 have:=nodup_sub (l.map (·.2)) (List.range i) hn (fun x hx=>by
  obtain ⟨p,hp,rfl⟩:=List.mem_map.1 hx;exact List.mem_range.2 ((h.mem p.1 p.2).1 hp).1)
 simpa using this
section
variable {own : Own} {z : Nat} {W : World} {pb : Nat} {D : PlD} {N E L T : Int}
theorem order_calls (hP : PlAt own z W pb D) (hc : D.k = 0/\D.t = T/\D.n = N/\D.e = E/\D.l = L) (hp : 0<=D.puts/\D.puts<=2 ^ 37) (ht : 0<=D.takes/\D.takes<=2 ^ 37) (hdl : D.deeds.length<=2 ^ 37) (hne : D.deeds≠[])
  (hF : ∀ (n : Nat) d,D.deeds[n]? = some d->d.a.err≠0->okE N E L D.puts D.takes d) (hpr : ∀ (n : Nat) d,D.deeds[n]? = some d->properB d.op.kind d.op.key d.op.spans = true) :
  Calls Tryz.prog 81 #[pv pb] W fun r W'=>∃ v l,r = .returned (.tuple #[v,.bool true])/\LRow W W' v l/\OrdL D.deeds D.deeds.length l:=by
 obtain ⟨iP,hiP,hzP,hsP,hbP⟩:=info_parts Tryz.infoPlc;obtain ⟨gd,cd,hdv,hdc⟩:=hP.deedCells hne;have HP:=(mkH (PlAt own z W pb D) <|hP);have HDv:=(mkH (D.dv = .slice (some ⟨gd,0,none⟩) D.deeds.length cd) <|hdv);have HDC:=(mkH (∀ (k : Nat) d,D.deeds[k]? = some d->_) <|hdc);have HRf:=(mkH (∀ (k : Nat) d wr,D.deeds[k]? = some d->d.a.err≠0->Fr (fun _=>False) W wr->Calls Tryz.prog 101 #[pv pb,.agg d.cells.toArray] wr _) <|fun k d wr hd he hf=>refused_calls (hP.calm hf) hc hp ht d (List.mem_of_getElem? hd) (fun h4=>by have:=hpr k d hd; rw [h4] at this; exact proper_spans this) (hF k d hd he));obtain ⟨dl,hdl'⟩ : ∃ dl : Nat,dl = D.deeds.length:=⟨_,rfl⟩;have HDl:=(mkH (dl = D.deeds.length) <|hdl');rw [<- hdl'] at hdl;clear hP hdv hdc hF hpr hc hp ht hne hdl';unfold pv;unfold pv at HRf
 go_enter Tryz.func81,Tryz.ntmps81
 go_wp2
 go_loopw [4,5] (fun v i wr=>∃ (k : Nat) (l : List (DeedV × Nat)),k<=dl/\i = .int .i64 k/\Hid (LRow W wr v l)/\Hid (OrdL D.deeds k l)) (fun _ i _=>dl - (intOf i).toNat)
 case atStart=>exact ⟨0,[],Nat.zero_le _,rfl,LRow.none W,OrdL.none _⟩
 case round =>
  obtain ⟨k,l,hk,rfl,HL,HO⟩:=hrel;have hPr:=HP.out.calm HL.out.fr;have ha:=hPr.at_.cell;simp only [PlD.cells,HDv.out,<- HDl.out,pv] at ha;clear hPr;by_cases hlt : k < dl
  ·obtain ⟨d,hx⟩ : ∃ d,D.deeds[k]? = some d:=⟨_,List.getElem?_eq_getElem (by rw [<- HDl.out]; exact hlt)⟩;obtain ⟨⟨xa,xn,xc,la,ln,lc,e1,e2⟩,hcl⟩:=HDC.out k d hx;have kc : ∀ q v,d.cells[q]? = some v->wr.cell? ⟨gd,k * 10 + q,none⟩ = some v:=fun q v hq=>HL.out.fr.keepCell (hcl q v hq)
   have c0:=kc 0 _ rfl;have c1:=kc 1 _ rfl;have c2:=kc 2 _ rfl;have c3:=kc 3 _ rfl;have c4:=kc 4 _ rfl;have c5:=kc 5 _ rfl;have c6:=kc 6 _ rfl;have c7:=kc 7 _ rfl;have c8:=kc 8 _ rfl;have c9:=kc 9 _ rfl;rw [e1] at c3;rw [e2] at c8;simp only [Nat.add_zero] at c0;have HX:=(mkH (D.deeds[k]? = some d) <|hx);clear hcl kc hx;by_cases he : d.a.err = 0
   ·have he' : (d.a.err != 0) = false:=by simpa using he
    obtain ⟨va,vc,hv⟩:=ownsShape HL.out.row;have HLn:=(mkH (l.length<=k) <|HO.out.len);subst hv;have HPush : Hid (∀ (g' cap : Nat) (w3 : World) (ob ob' : Obj),w3.ownsRow 0 158 11 (.slice (some ⟨g',0,none⟩) (l.length + 1) cap) (l.length + 1) (l.flatMap plc ++ plc (d,k))->((wr.alloc ob).alloc ob').grownBy w3 (Value.slice va l.length vc).ownBlock->((Value.slice va l.length vc).ownBlock = some g'\/wr.heap.size + 1 + 1<=g')->ob = .cells d.cells.toArray 97->LRow W w3 (.slice (some ⟨g',0,none⟩) (l.length + 1) cap) (l ++ (d,k) :: [])/\At w3 wr.heap.size d.cells 97/\wr.heap.size≠g'):=by
     intro g' cap w3 ob ob' hown hgr hge hob;have hvb : ∀ q,(Value.slice va l.length vc).ownBlock = some q->W.heap.size<=q/\q < wr.heap.size:=fun q hq=>⟨HL.out.new q hq,ownsRow_lt HL.out.row hq⟩
     have hg' : W.heap.size<=g'/\wr.heap.size≠g':=by
      have:=HL.out.fr.size
      rcases hge with h | h
      ·have:=hvb g' h; omega
      ·omega
     refine ⟨⟨?_,?_,Fr.grown ((HL.out.fr.alloc _).alloc _) hgr (fun q hq=>.inr (hvb q hq).1)⟩,?_,hg'.2⟩
     ·rw [List.flatMap_append,List.length_append];simpa using hown
     ·intro q hq;simp [Value.ownBlock] at hq;subst hq; exact hg'.1
     ·have hA : At ((wr.alloc ob).alloc ob') wr.heap.size d.cells 97:=by rw [hob]; exact (At.new wr d.cells _).alloc _
      have hlt:=hA.lt;unfold At at *;rw [hgr.block wr.heap.size hlt (fun q=>by have:=hvb _ q.symm; omega)];exact hA
    have HPut:=(mkH (∀ A B,l = A ++ B->(∀ b ∈ B,aheadD d b.1 = true)->(∀ a,A.getLast? = some a->aheadD d a.1 = false)->OrdL D.deeds (k + 1) (A ++ (d,k) :: B)) <|fun A B hl h1 h2=>by
     have hO:=HO.out;rw [hl] at hO;exact hO.put HX.out he h1 h2)
    have HAh:=(mkH (∀ (a : DeedV × Nat),a ∈ l->DSl a.1/\∀ w',Calls Tryz.prog 102 #[.agg d.cells.toArray,.agg a.1.cells.toArray] w' _) <|fun a ha=>by
     obtain ⟨_,h2,_⟩:=(HO.out.mem a.1 a.2).1 ha;have hs:=(HDC.out a.2 a.1 h2).1;exact ⟨hs,fun w'=>ahead_calls d a.1 (HDC.out k d HX.out).1 hs w'⟩)
    clear he;simp only [DeedV.cells,e1,e2] at HAh;simp only [DeedV.cells,e1,e2,plc,List.cons_append,List.nil_append] at HPush;have HPd : Hid (plc (d,k) = [.int .i64 d.op.kind,.int .i64 d.op.key,.int .i64 d.op.value,.slice xa xn xc,.int .i64 d.a.err,.bool d.a.did,.int .i64 d.a.value,.int .i64 d.a.stamp,.slice la ln lc,.int .i64 d.frm,.int .i64 k]):=by show _ = _; simp only [plc,DeedV.cells,e1,e2,List.cons_append,List.nil_append]
    go_wp2_with (at_builtin; refine wpList_push _ rfl _ _ 154 rfl 0 158 iP _ 11 120 Tryz.underlying154 hiP hzP hsP hbP rfl (by decide) _ _ _ rfl (ownsRow_alloc (ownsRow_alloc HL.out.row _) _) (wr.heap.size + 1) _ rfl rfl 158 (At.newAt (by simp) _ _) (by simp [Value.oneCell']) (by have:=HLn.out; unfold maxLen; omega) (by have:=HLn.out; omega) (by simp) ?_);intro g' cap w3 hown hgr hge;obtain ⟨hl3,hb3,hn3⟩:=HPush.out g' cap w3 _ _ hown hgr hge rfl;have HL3:=(mkH (LRow W w3 (.slice (some ⟨g',0,none⟩) (l.length + 1) cap) (l ++ [(d,k)])) <|hl3);have HB3:=(mkH (At w3 wr.heap.size _ 97) <|hb3);clear hl3 hb3 hown hgr hge HPush c0 c1 c2 c3 c4 c5 c6 c7 c8 c9 he' ha;obtain ⟨bb,hbb⟩ : ∃ bb,bb = wr.heap.size:=⟨_,rfl⟩;rw [<- hbb] at HB3 hn3;have hll:=HLn.out;simp only [<- hbb];clear hbb;go_wp2
    go_loopw [8] (fun kk wr2=>∃ (A B : List (DeedV × Nat)),kk = .int .i64 A.length/\Hid (l = A ++ B)/\Hid (∀ b ∈ B,aheadD d b.1 = true)/\Hid (LRow W wr2 (.slice (some ⟨g',0,none⟩) (l.length + 1) cap) (A ++ (d,k) :: B))/\Hid (At wr2 bb [.int .i64 d.op.kind,.int .i64 d.op.key,.int .i64 d.op.value,.slice xa xn xc,.int .i64 d.a.err,.bool d.a.did,.int .i64 d.a.value,.int .i64 d.a.stamp,.slice la ln lc,.int .i64 d.frm] 97)) (fun kk _=>(intOf kk).toNat)
    case atStart=>exact ⟨l,[],rfl,(List.append_nil l).symm,fun b hb=>by simp at hb,HL3,HB3⟩
    case round =>
     obtain ⟨A,B,rfl,HAB,HBb,HLr,HBr⟩:=hrel;rcases List.eq_nil_or_concat A with rfl | ⟨A',a,rfl⟩
     ·have HFin:=(mkH (OrdL D.deeds (k + 1) ([] ++ (d,k) :: B)) <|HPut.out [] B HAB.out HBb.out (fun a ha=>by simp at ha));simp only [List.length_nil];go_wp2
      go_roundw
      case rel=>exact ⟨k + 1,_,by omega,by go_num,HLr,HFin⟩
      case measure=>simp [intOf]; omega
     ·have hal : a ∈ l:=by rw [HAB.out]; simp
      obtain ⟨⟨ya,yn,yc,za,zn,zc,f1,f2⟩,hcal⟩:=HAh.out a hal;have HCa:=(mkH (∀ w',Calls Tryz.prog 102 _ w' _) <|hcal);simp only [DeedV.cells,f1,f2] at HCa;obtain ⟨m,hm⟩ : ∃ m,m = A'.length:=⟨_,rfl⟩;have hlen : m + 1<=l.length:=by rw [HAB.out,hm]; simp
      obtain ⟨g2,c2,hv2,hg1,hg2,hfz,⟨cs,hat,hcs⟩,hcell⟩:=HLr.out.cells (by simp);have hgg : g2 = g':=by simp at hv2; exact hv2.1.symm
      subst hgg;have hca:=hcell m a (by rw [hm]; simp);have HPa : Hid (plc a = [.int .i64 a.1.op.kind,.int .i64 a.1.op.key,.int .i64 a.1.op.value,.slice ya yn yc,.int .i64 a.1.a.err,.bool a.1.a.did,.int .i64 a.1.a.value,.int .i64 a.1.a.stamp,.slice za zn zc,.int .i64 a.1.frm,.int .i64 a.2]):=by show _ = _; simp only [plc,DeedV.cells,f1,f2,List.cons_append,List.nil_append]
      rw [HPa.out] at hca;have hkk : (Value.int .i64 ((A' ++ [a]).length : Nat) : Value) = .int .i64 ((m + 1 : Nat) : Int):=by rw [hm]; simp
      simp only [List.concat_eq_append] at *;rw [hkk];have HCA:=(mkH (∀ q u,_) <|hca);have HM:=(mkH (m = A'.length) <|hm);clear hcal hv2 hcell hca hkk hal hm f1 f2;go_wp2_with fail;refine wp_region_calm [7] 0 rfl (by kernel_rfl) (by kernel_rfl) (by kernel_rfl) (by decide) (by kernel_rfl) (by decide) ?_;intro U V hU hV;have hbu : ∀ u o,(V u).cell? ⟨bb,o,none⟩ = _:=fun u=>((hV u).at HBr.out (fun h=>h)).cell
      have q0 : ∀ u,(V u).cell? ⟨g2,m * 11,none⟩ = _:=fun u=>(hV u).keepCell (HCA.out 0 _ rfl)
      have q1 : ∀ u,(V u).cell? ⟨g2,m * 11 + 1,none⟩ = _:=fun u=>(hV u).keepCell (HCA.out 1 _ rfl)
      have q2 : ∀ u,(V u).cell? ⟨g2,m * 11 + 2,none⟩ = _:=fun u=>(hV u).keepCell (HCA.out 2 _ rfl)
      have q3 : ∀ u,(V u).cell? ⟨g2,m * 11 + 3,none⟩ = _:=fun u=>(hV u).keepCell (HCA.out 3 _ rfl)
      have q4 : ∀ u,(V u).cell? ⟨g2,m * 11 + 4,none⟩ = _:=fun u=>(hV u).keepCell (HCA.out 4 _ rfl)
      have q5 : ∀ u,(V u).cell? ⟨g2,m * 11 + 5,none⟩ = _:=fun u=>(hV u).keepCell (HCA.out 5 _ rfl)
      have q6 : ∀ u,(V u).cell? ⟨g2,m * 11 + 6,none⟩ = _:=fun u=>(hV u).keepCell (HCA.out 6 _ rfl)
      have q7 : ∀ u,(V u).cell? ⟨g2,m * 11 + 7,none⟩ = _:=fun u=>(hV u).keepCell (HCA.out 7 _ rfl)
      have q8 : ∀ u,(V u).cell? ⟨g2,m * 11 + 8,none⟩ = _:=fun u=>(hV u).keepCell (HCA.out 8 _ rfl)
      have q9 : ∀ u,(V u).cell? ⟨g2,m * 11 + 9,none⟩ = _:=fun u=>(hV u).keepCell (HCA.out 9 _ rfl)
      clear hV
      repeat (refine mix_read rfl rfl ?_; go_big_quiet_step (fail); refine wpQuiet_nil ?_)
      refine mix_effC (.bool (aheadD d a.1)) rfl rfl rfl ?_ ?_
      ·intro w' hw';go_simp;refine (HCa.out w').mono ?_;rintro e w'' ⟨rfl,hF⟩;exact ⟨rfl,hw'.trans hF⟩
      go_simp
      repeat (refine mix_read rfl rfl ?_; go_big_quiet_step (fail); refine wpQuiet_nil ?_)
      refine mix_nil ?_;intro w4 hF4;have HL4:=(mkH (LRow W w4 _ _) <|HLr.out.calm hF4);have HB4:=(mkH (At w4 bb _ 97) <|hF4.at HBr.out (fun h=>h));have HAt4:=(mkH (At w4 g2 cs 158) <|hF4.at hat (fun h=>h));have HC4:=(mkH (∀ q u,_->w4.cell? ⟨g2,m * 11 + q,none⟩ = some u) <|fun q u h=>hF4.keepCell (HCA.out q u h));have HLb:=(mkH (l.length + 1 = (A' ++ [a]).length + 1 + B.length) <|by show _ = _; rw [HAB.out]; simp; omega);clear hF4 hbu q0 q1 q2 q3 q4 q5 q6 q7 q8 q9 hat hfz hg1 hg2 HCa HBr HLr HCA;obtain ⟨bd,hbd⟩ : ∃ bd,Hid (aheadD d a.1 = bd):=⟨_,rfl⟩;rw [hbd.out];cases bd
      ·have HFin:=(mkH (OrdL D.deeds (k + 1) (A' ++ [a] ++ (d,k) :: B)) <|HPut.out (A' ++ [a]) B HAB.out HBb.out (fun x hx=>by simp at hx; rw [<- hx]; exact hbd.out));go_wp2
       go_roundw
       case rel=>exact ⟨k + 1,_,by omega,by go_num,HL4,HFin⟩
       case measure=>simp [intOf]; omega
      ·have c0:=HC4.out 0 _ rfl;have c1:=HC4.out 1 _ rfl;have c2:=HC4.out 2 _ rfl;have c3:=HC4.out 3 _ rfl;have c4:=HC4.out 4 _ rfl;have c5:=HC4.out 5 _ rfl;have c6:=HC4.out 6 _ rfl;have c7:=HC4.out 7 _ rfl;have c8:=HC4.out 8 _ rfl;have c9:=HC4.out 9 _ rfl;have c10:=HC4.out 10 _ rfl;simp only [Nat.add_zero] at c0;go_wp2_with (with_reducible refine only_store (t:=158) ?_)
       change wpList _ _ _ _ _ _
       refine wpList_storeAgg w4 rfl (.tmp 62) (.tmp 61) 158 rfl g2 ((m + 1) * 11) [.int .i64 a.1.op.kind,.int .i64 a.1.op.key,.int .i64 a.1.op.value,.slice ya yn yc,.int .i64 a.1.a.err,.bool a.1.a.did,.int .i64 a.1.a.value,.int .i64 a.1.a.stamp,.slice za zn zc,.int .i64 a.1.frm,.int .i64 a.2] ?hp ?hx ?hs cs 158 HAt4.out ?hf ?h1 ?h
       case hp=>go_simp
       case hx=>go_simp
       case hs=>exact Tryz.plc_size
       case hf =>
        have:=hcs
        simp only [List.length_append,List.length_cons,List.length_nil] at this ⊢
        have:=HM.out
        omega
       case h1=>simp [Value.oneCell']
       have HL5:=(mkH (LRow W (w4.setCells g2 ((m + 1) * 11) [.int .i64 a.1.op.kind,.int .i64 a.1.op.key,.int .i64 a.1.op.value,.slice ya yn yc,.int .i64 a.1.a.err,.bool a.1.a.did,.int .i64 a.1.a.value,.int .i64 a.1.a.stamp,.slice za zn zc,.int .i64 a.1.frm,.int .i64 a.2]) (.slice (some ⟨g2,0,none⟩) (l.length + 1) cap) (A' ++ [a] ++ a :: B)) <|by
        have h:=HL4.out;have e1 : l.length + 1 = (A' ++ [a] ++ (d,k) :: B).length:=by rw [HAB.out]; simp; omega
        rw [e1] at h;have h2:=h.put (y:=a);rw [HPa.out] at h2;have e2 : (A' ++ [a] ++ a :: B).length = l.length + 1:=by rw [HAB.out]; simp; omega
        rw [e2] at h2;have e3 : (A' ++ [a]).length = m + 1:=by rw [HM.out]; simp
        rw [e3] at h2;exact h2)
       have HB5:=(mkH (At (w4.setCells g2 ((m + 1) * 11) [.int .i64 a.1.op.kind,.int .i64 a.1.op.key,.int .i64 a.1.op.value,.slice ya yn yc,.int .i64 a.1.a.err,.bool a.1.a.did,.int .i64 a.1.a.value,.int .i64 a.1.a.stamp,.slice za zn zc,.int .i64 a.1.frm,.int .i64 a.2]) bb _ 97) <|(Fr.setCells (S:=fun q=>q = g2) rfl _ _ _ (Fr.refl _ w4)).at HB4.out hn3);generalize w4.setCells g2 ((m + 1) * 11) _ = w5 at *;clear c0 c1 c2 c3 c4 c5 c6 c7 c8 c9 c10 HC4 HB4 HAt4 HL4 hcs;obtain ⟨g5,_,hv5,_,_,_,⟨cs5,hat5,hcs5⟩,_⟩:=HL5.out.cells (by simp);have hgg : g5 = g2:=by simp at hv5; exact hv5.1.symm
       rw [hgg] at hat5;clear hgg;have hbc:=HB5.out.cell;have HAt5:=(mkH (At w5 _ cs5 158) <|hat5);clear hat5 hv5;go_wp2_with (with_reducible refine only_store (t:=158) ?_)
       change wpList _ _ _ _ _ _
       refine wpList_storeAgg w5 rfl (.tmp 70) (.tmp 69) 158 rfl g2 (m * 11) [.int .i64 d.op.kind,.int .i64 d.op.key,.int .i64 d.op.value,.slice xa xn xc,.int .i64 d.a.err,.bool d.a.did,.int .i64 d.a.value,.int .i64 d.a.stamp,.slice la ln lc,.int .i64 d.frm,.int .i64 k] ?hp ?hx ?hs cs5 158 HAt5.out ?hf ?h1 ?h
       case hp=>go_simp
       case hx=>go_simp
       case hs=>exact Tryz.plc_size
       case hf =>
        have:=hcs5
        simp only [List.length_append,List.length_cons,List.length_nil] at this ⊢
        have:=HM.out
        omega
       case h1=>simp [Value.oneCell']
       have HL6:=(mkH (LRow W (w5.setCells g2 (m * 11) [.int .i64 d.op.kind,.int .i64 d.op.key,.int .i64 d.op.value,.slice xa xn xc,.int .i64 d.a.err,.bool d.a.did,.int .i64 d.a.value,.int .i64 d.a.stamp,.slice la ln lc,.int .i64 d.frm,.int .i64 k]) (.slice (some ⟨g2,0,none⟩) (l.length + 1) cap) (A' ++ (d,k) :: a :: B)) <|by
        have h:=HL5.out;rw [show A' ++ [a] ++ a :: B = A' ++ a :: a :: B by simp] at h;have e1 : l.length + 1 = (A' ++ a :: a :: B).length:=by rw [HAB.out]; simp; omega
        rw [e1] at h;have h2:=h.put (y:=(d,k));rw [HPd.out] at h2;have e2 : (A' ++ (d,k) :: a :: B).length = l.length + 1:=by rw [HAB.out]; simp; omega
        rw [e2,<- HM.out] at h2;exact h2)
       have HB6:=(mkH (At (w5.setCells g2 (m * 11) [.int .i64 d.op.kind,.int .i64 d.op.key,.int .i64 d.op.value,.slice xa xn xc,.int .i64 d.a.err,.bool d.a.did,.int .i64 d.a.value,.int .i64 d.a.stamp,.slice la ln lc,.int .i64 d.frm,.int .i64 k]) bb _ 97) <|(Fr.setCells (S:=fun q=>q = g2) rfl _ _ _ (Fr.refl _ w5)).at HB5.out hn3);generalize w5.setCells g2 (m * 11) _ = w6 at *;have HAB6 : Hid (l = A' ++ a :: B):=by show _ = _; rw [HAB.out]; simp
       have HBb6 : Hid (∀ b ∈ a :: B,aheadD d b.1 = true):=by
        intro b hb;rcases List.mem_cons.1 hb with rfl | hb
        ·exact hbd.out
        ·exact HBb.out b hb
       clear hbc HL5 HB5 HAt5 hcs5;simp only [Act.put];go_wp2
       go_roundw
       case rel=>exact ⟨A',a :: B,by rw [<- HM.out],HAB6,HBb6,HL6,HB6⟩
       case measure=>simp [intOf]
   ·have he' : (d.a.err != 0) = true:=by simpa using he
    have HRk:=(mkH (Calls _ _ _ _ _) <|HRf.out k d _ HX.out he (HL.out.fr.alloc (.cells d.cells.toArray 97)));have HSk:=(mkH (OrdL D.deeds (k + 1) l) <|HO.out.skip HX.out he);simp only [DeedV.cells,e1,e2] at HRk;clear he;go_wp2_with fail;refine Calls.mono HRk.out ?_;rintro r w1 ⟨rfl,hF1⟩;have HL1:=(mkH (LRow W w1 _ l) <|HL.out.calm (((Fr.refl _ _).alloc _).trans hF1));clear hF1 HRk;go_wp2
    go_roundw
    case rel=>exact ⟨k + 1,l,by omega,by go_num,HL1,HSk⟩
    case measure=>simp [intOf]; omega
  ·have hke : k = dl:=by omega
   subst hke;go_wp2;go_ret2;exact ⟨_,l,rfl,HL.out,by rw [<- HDl.out]; exact HO.out⟩
end
end
end Go.Proofs.YtfccelbmacjifaaGreat
