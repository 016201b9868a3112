import Derived.Test.YtfccelbmacjifaaGreatP31
import Derived.Test.YtfccelbmacjifaaGreatRows
import Derived.Test.YtfccelbmacjifaaGreatP27
import Derived.Test.YtfccelbmacjifaaGreatP20
import Derived.ProofKit
import Derived.Lib.SmallJoins
import Derived.OpenShut
import Derived.ChangeOld
import Derived.JoinedCond
set_option linter.unusedSimpArgs false
namespace Go.Proofs.YtfccelbmacjifaaGreat
open Go.RowKit
section
variable {own : Own} {z : Nat} {w w1 w2 : World} {pb sb ub : Nat} {D D1 D2 : PlD} {ps : List (Int × Int)} {n e cl : Int} {i : Nat} {t : PThread}
/-- A call alone, as far as its end. -/
structure Lone1 (own : Own) (z : Nat) (w w2 : World) (pb sb ub : Nat) (D : PlD) (ps : List (Int × Int)) (n e cl : Int) (i m : Nat) (P1 : PSt) (o : OpV) (A : BAns) (own2 : Own) (D2 : PlD) : Prop where
  at_ : AlAt own2 z w2 pb sb ub D2 ps n e cl
  ext : Ext own own2 w
  fr : FrA own z w w2
  done : Loned D i m P1 D2
  op : OpOk own2 (z + 1) w2 o
  last : ∃ l o' av f, D2.deeds = l ++ [⟨o', A, av, f⟩]
/-- What a call alone leaves. -/
def LoneTo (own : Own) (z : Nat) (w w' : World) (pb sb ub : Nat) (D : PlD) (ps : List (Int × Int)) (n e cl : Int) (i m : Nat) (P1 : PSt) (kd ky va : Int) (d : Bool) : Prop :=
  ∃ own' D', AlAt own' z w' pb sb ub D' (if d then shNew ps kd ky va else ps) (if d then n - spendN 0 kd else n) (if d then e - spendE 0 kd else e) (if d then cl + 1 else cl) ∧ Ext own own' w ∧ FrA own z w w' ∧ Loned D i m P1 D'
theorem Lone1.end_ {m : Nat} {P1 : PSt} {o : OpV} {A : BAns} {own2 : Own} {w' : World} (h : Lone1 own z w w2 pb sb ub D ps n e cl i m P1 o A own2 D2) (kd ky va : Int) (d : Bool) (hF : Fr (fun k => k = sb ∨ k = ub) w2 w') {a : Option Addr} {c : Nat}
    (hS : ShAt w' sb a c (if d then shNew ps kd ky va else ps)) (hU : PuAt w' ub (if d then n - spendN 0 kd else n) (if d then e - spendE 0 kd else e) (if d then cl + 1 else cl)) (hg : ∀ g, a = some ⟨g, 0, none⟩ → (w2.heap.size ≤ g ∧ g < w'.heap.size) ∨ (g < w2.heap.size ∧ own2 g = ⟨z + 2, .lists⟩)) : LoneTo own z w w' pb sb ub D ps n e cl i m P1 kd ky va d := by
  obtain ⟨own', h1, h2, h3⟩ := h.at_.after hF hS hU hg
  exact ⟨own', D2, h1, Ext.trans h.ext h2 h.fr.size, FrA.trans h.fr h.ext h3, h.done⟩
set_option maxHeartbeats 1000000 in
set_option maxRecDepth 100000 in
theorem lone_on (h : AlAt own z w pb sb ub D ps n e cl) (hok : D.ok) (ht : D.P.ts[i]? = some t) (htb : t.busy = false) (kd ky va : Int) (sp : List (Int × Int)) (sa : Option Addr) (sc : Nat) (ho : OpOk own (z + 1) w ⟨kd, ky, va, sp, .slice sa sp.length sc⟩) (hsl : sp.length ≤ 2 ^ 40) (hc : D.puts ≤ 2 ^ 40 ∧ 0 ≤ D.puts ∧ D.takes ≤ 2 ^ 40 ∧ 0 ≤ D.takes) (hp : properB kd ky sp = true)
    (hk : D.k = 0) (hcf : 0 ≤ D.n ∧ D.n ≤ 64) (hps : ps.length ≤ 2 ^ 20) (hn : 0 ≤ n ∧ n ≤ 64) (he : 0 ≤ e ∧ e ≤ 256) (hcl : 0 ≤ cl ∧ cl ≤ 2 ^ 41) (hN : D.N ≤ 2 ^ 38) (hdl : D.deeds.length ≤ 2 ^ 38) (m : Nat) (hm : (m : Int) < D.n + 16) (P1 : PSt) (hP1 : P1 = D.begun i t ⟨kd, ky, va, sp, .slice sa sp.length sc⟩)
    (hmv : ∀ j, j < m → P1.how i j = 1) (hend : P1.how i m = 3) (hans : ((P1.iter i m).th i).work.ans = wantOf 0 D.l n e cl ps kd ky sp) :
    Calls Tryz.prog 44 #[pv pb, pv sb, pv ub, .int .i64 i, opVal kd ky va (.slice sa sp.length sc)] w fun r w' => r = .returned (.bool true) ∧ LoneTo own z w w' pb sb ub D ps n e cl i m P1 kd ky va (doneOf 0 D.l n e cl ps kd ky) := by
  have hi := (List.getElem?_eq_some_iff.1 ht).1
  have hfew := h.pl.fit.thr
  obtain ⟨w0, hw0⟩ : ∃ w0, w0 = w.alloc (.cells #[.int .i64 kd, .int .i64 ky, .int .i64 va, .slice sa sp.length sc] 82) := ⟨_, rfl⟩
  have hX0 : At w0 w.heap.size [.int .i64 kd, .int .i64 ky, .int .i64 va, .slice sa sp.length sc] 82 := by rw [hw0]; exact At.new _ _ _
  have hf0 : Fr (fun _ => False) w w0 := by rw [hw0]; exact (Fr.refl _ _).alloc _
  have hE0 : Ext own (own.put w.heap.size (z + 7) .store) w := Ext.put (Nat.le_refl _) _ _
  have ht0 : (own.put w.heap.size (z + 7) .store) w.heap.size = ⟨z + 7, .store⟩ := Own.put_same _ _ _ _
  generalize own.put w.heap.size (z + 7) .store = own0 at hE0 ht0
  have hfp : FrP own z w w0 := Fr.mono hf0 (fun _ _ h => h.elim)
  have hA0 : AlAt own0 z w0 pb sb ub D ps n e cl := h.player (h.pl.fr hf0 hE0 (fun _ _ h => h)) hE0 hfp
  have hb : D.bs[i]? = some false := by rw [hok, List.getElem?_map, ht]; simp [htb]
  have HB := (show Hid (Calls _ _ _ _ _) from Pbegins_calls hA0.pl hok ht kd ky va sp sa sc (ho.fr hf0 hE0 (fun _ _ h => h)) hsl hc)
  have H1 : Hid (∀ (own1 : Own) (w1 : World) (D1 : PlD), PlAt own1 z w1 pb D1 → Ext own0 own1 w0 → FrP own0 z w0 w1 → Begun D i t ⟨kd, ky, va, sp, .slice sa sp.length sc⟩ D1 → D1.bs[i]? = some true ∧ D1.P.ts.length = D.P.ts.length ∧
      Calls Tryz.prog 51 #[pv pb, .int .i64 i] w1 fun r w2 => r = .returned (.bool true) ∧ At w2 w.heap.size [.int .i64 kd, .int .i64 ky, .int .i64 va, .slice sa sp.length sc] 82 ∧ ∃ own2 D2, Lone1 own z w w2 pb sb ub D ps n e cl i m P1 ⟨kd, ky, va, sp, .slice sa sp.length sc⟩ (wantOf 0 D.l n e cl ps kd ky sp) own2 D2 ∧ own2 w.heap.size = ⟨z + 7, .store⟩) := by
    intro own1 w1 D1 hP hE hF hG
    obtain ⟨y1, y2, y3, y4, y5, y6⟩ := hG.yes htb hp
    have hPP : D1.P = P1 := by rw [hP1]; exact y1
    have hbs : D1.bs[i]? = some true := by
      rw [y2, List.getElem?_set_self (by rw [h.pl.bl]; exact hi)]
    have hlen : D1.P.ts.length = D.P.ts.length := by rw [y1]; simp [PSt.setT]
    have hts : D1.P.ts[i]? = some { t with busy := true, work := newWork kd ky va sp } := by
      rw [y1]; simp [PSt.setT, hi]
    refine ⟨hbs, hlen, ?_⟩
    have hcfg := hG.cfg
    refine (Psolo_calls hP (by rw [hcfg.2.2.1]; exact hcf) hbs hts rfl (by rw [hG.N]; exact hN) (by rw [hG.deeds]; exact hdl) m (by rw [hcfg.2.2.1]; exact hm) (by rw [hPP]; exact hmv) (by rw [hPP]; exact hend)).mono ?_
    rintro r w2 ⟨rfl, own2, D2, hP2, hE2, hF2, hS⟩
    have hE02 := Ext.trans hE hE2 hF.size
    have hF02 := FrP.trans hF hE hF2
    have hL := Loned.of hG htb hp hb hS
    have htb2 : own2 w.heap.size = ⟨z + 7, .store⟩ := by rw [hE02 _ hX0.lt]; exact ht0
    refine ⟨rfl, hF02.at hX0 (by rw [ht0]; simp), own2, D2, ⟨hA0.player hP2 hE02 hF02, Ext.trans hE0 hE02 hf0.size, FrA.trans hfp.fra hE0 hF02.fra, by rw [hP1]; exact hL, ?_, ?_⟩, htb2⟩
    · refine hP2.opk _ ?_
      rw [hS.same.1, y3]
      exact List.mem_set (by rw [h.pl.ol]; exact hi) _
    · obtain ⟨av, o', f, _, _, q3⟩ := hS.deeds
      rw [hPP, hans] at q3
      exact ⟨_, _, _, _, q3⟩
  have HP := (show Hid (properB kd ky sp = true) from hp)
  have HSB : Hid (sb < w.heap.size ∧ ub < w.heap.size ∧ sb ≠ ub) := by
    obtain ⟨a, c, hs, _⟩ := h.sh
    refine ⟨hs.1.lt, At.lt h.pu, ?_⟩
    rintro rfl
    have h1 := h.ts
    rw [h.tu] at h1
    simp at h1
  have HDL := (show Hid (D.deeds.length ≤ 2 ^ 38) from hdl)
  have HK := (show Hid (D.k = 0) from hk)
  have E0 := (show Hid (w0 = _) from hw0)
  clear h hok ht htb ho hp hk hN hdl hm hP1 hmv hend hans hX0 hf0 hE0 ht0 hfp hA0 hb hw0
  unfold opVal
  unfold opVal pv at HB
  unfold pv at H1
  unfold pv
  go_enter Tryz.func44, Tryz.ntmps44
  go_wp2_with fail
  rw [← E0.out]
  refine Calls.mono HB.out ?_
  rintro r w1 ⟨rfl, own1, D1, hP, hE, hF, hG⟩
  obtain ⟨hbs, hlen, hsolo⟩ := H1.out own1 w1 D1 hP hE hF hG
  obtain ⟨g, c, hv, hbc, hz, hg, hgl⟩ := hP.busyRow hbs
  rw [hlen] at hv
  have ha := hP.at_.cell
  simp only [PlD.cells, hv, pv] at ha
  have HS := (show Hid (Calls _ _ _ _ _) from hsolo)
  clear hP hE hF hG hz hg hv HB H1 hlen hsolo hbs E0
  go_wp2_with fail
  refine Calls.mono HS.out ?_
  rintro r w2 ⟨rfl, hX, own2, D2, hL, htX⟩
  clear HS ha hbc
  obtain ⟨l, o', av, f, hd⟩ := hL.last
  obtain ⟨gd, cd, hdv, hdc⟩ := hL.at_.pl.lastDeed hd
  have hdm := hL.at_.pl.dok ⟨o', wantOf 0 D.l n e cl ps kd ky sp, av, f⟩ (by rw [hd]; simp)
  obtain ⟨xa, xc, rfl⟩ : ∃ xa xc, av = .slice xa (wantOf 0 D.l n e cl ps kd ky sp).spans.length xc := by
    obtain ⟨ins, h1, h2, h3⟩ := hdm.2.1.top
    exact ownsShape h2.row
  have hdl : l.length ≤ 2 ^ 38 := by
    have h1 := hL.done.deeds
    have h2 := HDL.out
    rw [hd] at h1
    simp at h1
    omega
  have ha := hL.at_.pl.at_.cell
  simp only [PlD.cells, hdv, pv] at ha
  obtain ⟨A, hA⟩ : ∃ A, Hid (A = wantOf 0 D.l n e cl ps kd ky sp) := ⟨_, rfl⟩
  rw [← hA.out] at hdc hdm
  have hpl := hL.at_.pl.at_.lt
  have hpn : pb ≠ w2.heap.size := by omega
  have hgl := cellLt (hdc 4 _ rfl)
  simp only at hgl
  have hgn : gd ≠ w2.heap.size := by omega
  have hdi : (l.length : Int) ≤ 2 ^ 38 := by omega
  have d4 := hdc 4 _ rfl
  have d5 := hdc 5 _ rfl
  have d6 := hdc 6 _ rfl
  have d7 := hdc 7 _ rfl
  have d8 := hdc 8 _ rfl
  have HL := (show Hid (Lone1 _ _ _ _ _ _ _ _ _ _ _ _ _ _ _ _ _ _ _) from hL)
  have HDM := (show Hid (DeedOk _ _ _ _) from hdm)
  have HX := (show Hid (At w2 w.heap.size _ 82) from hX)
  clear hL hd hdm hX hdc hdv
  go_wp2_with fail
  go_region
  generalize hw3 : World.drew _ = w3
  have HA3 := (show Hid (At w3 w2.heap.size [.int .i64 A.err, .bool A.did, .int .i64 A.value, .int .i64 A.stamp, .slice xa A.spans.length xc] 93) from by rw [← hw3]; exact (At.new w2 _ _).drew)
  have hf3 : Fr (fun _ => False) w2 w3 := by rw [← hw3]; exact ((Fr.refl _ _).alloc _).drew
  clear hw3 ha d4 d5 d6 d7 d8 hpl hpn hgl hgn
  obtain ⟨a, c, hs, htl⟩ := HL.out.at_.sh
  have hs3 := hs.calm hf3
  have hsc := hs3.1.cell
  have hx3 := hf3.at HX.out (fun h => h)
  have hxc := hx3.cell
  have HPs := (show Hid (PairsAt w3 sa sp) from (PairsAt.ofRow HL.out.op).calm hf3)
  have HS3 := (show Hid (ShAt w3 sb a c ps) from hs3)
  have HX3 := (show Hid (At w3 w.heap.size _ 82) from hx3)
  have HU3 := (show Hid (PuAt w3 ub n e cl) from hf3.at HL.out.at_.pu (fun h => h))
  have HTl := (show Hid (∀ g, a = some ⟨g, 0, none⟩ → g < w2.heap.size ∧ own2 g = ⟨z + 2, .lists⟩) from htl)
  have HF3 := (show Hid (Fr (fun _ => False) w2 w3) from hf3)
  have h2l : Hid (w.heap.size < w2.heap.size) := HX.out.lt
  clear hs hs3 hx3 hf3 htl HX hdl hdi
  go_wp2_with fail
  refine Calls.mono (does_calls HS3.out kd ky va sa sc sp HPs.out hps HP.out) ?_
  rintro r w4 ⟨va', vn, vc, rfl, hD⟩
  have HF4 : Hid (Fr (fun k => k = sb) w3 w4) := by
    cases hu : shUpd ps kd ky
    · exact Fr.mono (hD.no hu).fr (fun _ _ h => h.elim)
    · exact (hD.yes hu).2.1
  have HX4 := (show Hid (At w4 w.heap.size _ 82) from HF4.out.at HX3.out (by have := HSB.out.1; omega))
  have HA4 := (show Hid (At w4 w2.heap.size _ 93) from HF4.out.at HA3.out (by have := HSB.out.1; have := h2l.out; omega))
  have HU4 := (show Hid (PuAt w4 ub n e cl) from HF4.out.at HU3.out (fun h => HSB.out.2.2 h.symm))
  have HD := (show Hid (DoesTo w3 w4 sb ps kd ky va sp (.slice va' vn vc)) from hD)
  obtain ⟨SA, hSA⟩ : ∃ SA, Hid (SA = shAns ps kd ky sp) := ⟨_, rfl⟩
  rw [← hSA.out]
  have hxc := HX4.out.cell
  have hxl := HX4.out.lt
  have hxn : w.heap.size ≠ w4.heap.size := by omega
  clear hD hsc
  simp only [ansV]
  go_wp2_with fail
  generalize hw5 : World.alloc _ _ = w5
  have HW5 := (show Hid (At w5 w4.heap.size [.int .i64 SA.err, .bool SA.did, .int .i64 SA.value, .int .i64 SA.stamp, .slice va' vn vc] 93) from by rw [← hw5]; exact At.new w4 _ _)
  have hf5 : Fr (fun _ => False) w4 w5 := by rw [← hw5]; exact (Fr.refl _ _).alloc _
  clear hw5
  refine Calls.mono (isUpdate_calls kd ky va (.slice sa sp.length sc) w5) ?_
  rintro r w6 ⟨rfl, hf6⟩
  have HF6 := (show Hid (Fr (fun _ => False) w4 w6) from hf5.trans hf6)
  have HW6 := (show Hid (At w6 w4.heap.size _ _) from hf6.at HW5.out (fun h => h))
  have HX6 := (show Hid (At w6 w.heap.size _ _) from HF6.out.at HX4.out (fun h => h))
  have HA6 := (show Hid (At w6 w2.heap.size _ _) from HF6.out.at HA4.out (fun h => h))
  have HU6 := (show Hid (PuAt w6 ub n e cl) from HF6.out.at HU4.out (fun h => h))
  have HF26 := (show Hid (Fr (fun k => k = sb ∨ k = ub) w2 w6) from ((Fr.mono HF3.out (fun _ _ h => h.elim)).trans (Fr.mono HF4.out (fun _ _ h => .inl h))).trans (Fr.mono HF6.out (fun _ _ h => h.elim)))
  have h24 : w2.heap.size < w4.heap.size := HA4.out.lt
  have h4n : w4.heap.size ≠ w2.heap.size := by omega
  have h4n' : w2.heap.size ≠ w4.heap.size := by omega
  clear hf5 hf6 HW5 HX4 HA4 HU4 hxl hxn hxc
  have HSame : Hid (∀ (w7 : World) (ya : Option Addr) (yn yc : Nat) (B : BAns), A = B → Fr (fun k => k = sb ∨ k = ub) w2 w7 → (B.spans = [] → Value.slice ya yn yc = .slice none 0 0) → (yn = B.spans.length ∧ ReadLists w7 ya B.spans) →
      Calls Tryz.prog 59 #[.agg #[.int .i64 A.err, .bool A.did, .int .i64 A.value, .int .i64 A.stamp, .slice xa A.spans.length xc], .agg #[.int .i64 B.err, .bool B.did, .int .i64 B.value, .int .i64 B.stamp, .slice ya yn yc]] w7 fun e w' => e = .returned (.bool true) ∧ Fr (fun _ => False) w7 w') := by
    intro w7 ya yn yc B hAB hF hy h2
    subst hAB
    refine sameAnswers_eq A w7 xa ya _ yn xc yc HDM.out.2.2 HDM.out.2.1.nil hy ((HDM.out.2.1.fr hF (Ext.refl _ _) ?_).read) h2
    rintro k hk (rfl | rfl)
    · rw [HL.out.at_.ts] at hk; simp at hk
    · rw [HL.out.at_.tu] at hk; simp at hk
  have hnub : ub ≠ w4.heap.size := by have := HSB.out.2.1; have := h2l.out; omega
  have hnub' : w4.heap.size ≠ ub := fun h => hnub h.symm
  have HEnd : Hid (∀ (w8 : World) (d : Bool) (a' : Option Addr) (c' : Nat), Fr (fun k => k = sb ∨ k = ub) w2 w8 → doneOf 0 D.l n e cl ps kd ky = d → ShAt w8 sb a' c' (if d then shNew ps kd ky va else ps) → PuAt w8 ub (if d then n - spendN 0 kd else n) (if d then e - spendE 0 kd else e) (if d then cl + 1 else cl) → (∀ g, a' = some ⟨g, 0, none⟩ → (w2.heap.size ≤ g ∧ g < w8.heap.size) ∨ (g < w2.heap.size ∧ own2 g = ⟨z + 2, .lists⟩)) →
      LoneTo own z w w8 pb sb ub D ps n e cl i m P1 kd ky va (doneOf 0 D.l n e cl ps kd ky)) := by
    intro w8 d a' c' hF hd hS hU hg
    rw [hd]
    exact HL.out.end_ kd ky va d hF hS hU hg
  cases hu : shUpd ps kd ky
  · have HOL := (show Hid (OwnLists w3 w6 (.slice va' vn vc) SA.spans) from by rw [hSA.out]; exact (HD.out.no hu).calm HF6.out)
    have hwc := HW6.out.cell
    have hwz := HW6.out.frozen
    have hac := HA6.out.cell
    have huc := HU6.out.cell
    have HDn : Hid (doneOf 0 D.l n e cl ps kd ky = false) := by show _ = _; simp [doneOf, hu]
    have HAw : Hid (A = if SA.err = 0 then { SA with stamp := cl } else SA) := by show _ = _; rw [hA.out, wantOf, hu, hSA.out]; rfl
    have HBD : Hid ((kd == 1 || kd == 2) = true → SA = {}) := by
      intro hb
      rw [hSA.out]
      have h12 : kd = 1 ∨ kd = 2 := by simpa using hb
      unfold shAns
      rw [if_neg (by omega), if_neg (by omega), hu]
      rfl
    have HFin : Hid (∀ w8 : World, Fr (fun k => w4.heap.size ≤ k) w6 w8 → LoneTo own z w w8 pb sb ub D ps n e cl i m P1 kd ky va (doneOf 0 D.l n e cl ps kd ky)) := by
      intro w8 hF
      have hF28 : Fr (fun k => k = sb ∨ k = ub) w2 w8 := Fr.transNew HF26.out hF (fun k hk => .inr (Nat.le_trans (Nat.le_of_lt h24) hk))
      have hs6 := HS3.out.calm HOL.out.fr
      refine HEnd.out w8 false a c hF28 HDn.out (hs6.keepS hF ?_ ?_) (hF.at HU6.out ?_) ?_
      · have := HSB.out.1; have := h2l.out; omega
      · intro g hg; have := (HTl.out g hg).1; omega
      · have := HSB.out.2.1; have := h2l.out; omega
      · intro g hg; exact .inr (HTl.out g hg)
    have HRd : Hid ((∀ v, vn = SA.spans.length ∧ ReadLists (w6.setCell ⟨w4.heap.size, 3, none⟩ v) va' SA.spans) ∧ vn = SA.spans.length ∧ ReadLists w6 va' SA.spans) := by
      refine ⟨fun v => ?_, ?_⟩
      · obtain ⟨_, _, hL⟩ := (HOL.out.setOther HW6.out (by decide) (by decide) HF4.out.size 3 v).lists own2 0
        exact hL.read
      · obtain ⟨_, _, hL⟩ := HOL.out.lists own2 0
        exact hL.read
    generalize (kd == 1 || kd == 2) = b at HBD ⊢
    have HFS : Hid (∀ v, Fr (fun k => k = sb ∨ k = ub) w2 (w6.setCell ⟨w4.heap.size, 3, none⟩ v)) := fun v => Fr.setNew (Nat.le_of_lt h24) HF26.out _ _
    cases b
    · by_cases he0 : SA.err = 0
      · have he0' : (SA.err == 0) = true := by simpa using he0
        have HC := (show Hid (Calls _ _ _ _ _) from HSame.out (w6.setCell ⟨w4.heap.size, 3, none⟩ (.int .i64 cl)) va' vn vc { SA with stamp := cl } (by rw [HAw.out, if_pos he0]) (HFS.out _) HOL.out.nil (HRd.out.1 _))
        clear he0
        go_wp2_with fail
        refine Calls.mono HC.out ?_
        rintro r w8 ⟨rfl, hf8⟩
        have HG := (show Hid (LoneTo _ _ _ _ _ _ _ _ _ _ _ _ _ _ _ _ _ _ _) from HFin.out w8 (((Fr.refl _ _).setIn (Nat.le_refl _) _ _).trans (Fr.mono hf8 (fun _ _ h => h.elim))))
        clear hf8
        go_wp2
        go_ret
        exact ⟨rfl, HG.out⟩
      · have he0' : (SA.err == 0) = false := by simpa using he0
        have HC := (show Hid (Calls _ _ _ _ _) from HSame.out w6 va' vn vc SA (by rw [HAw.out, if_neg he0]) HF26.out HOL.out.nil HRd.out.2)
        clear he0
        go_wp2_with fail
        refine Calls.mono HC.out ?_
        rintro r w8 ⟨rfl, hf8⟩
        have HG := (show Hid (LoneTo _ _ _ _ _ _ _ _ _ _ _ _ _ _ _ _ _ _ _) from HFin.out w8 (Fr.mono hf8 (fun _ _ h => h.elim)))
        clear hf8
        go_wp2
        go_ret
        exact ⟨rfl, HG.out⟩
    · have hz := HBD.out rfl
      have HC := (show Hid (Calls _ _ _ _ _) from HSame.out (w6.setCell ⟨w4.heap.size, 3, none⟩ (.int .i64 cl)) va' vn vc { SA with stamp := cl } (by rw [HAw.out, if_pos (by rw [hz])]) (HFS.out _) HOL.out.nil (HRd.out.1 _))
      have hz1 : SA.did = false := by rw [hz]
      have hz2 : (SA.err == 0) = true := by rw [hz]; rfl
      have hz3 : SA.err = 0 := by rw [hz]
      clear hz
      go_wp2_with fail
      simp only [hz1, hz3] at HC
      refine Calls.mono HC.out ?_
      rintro r w8 ⟨rfl, hf8⟩
      have HG := (show Hid (LoneTo _ _ _ _ _ _ _ _ _ _ _ _ _ _ _ _ _ _ _) from HFin.out w8 (((Fr.refl _ _).setIn (Nat.le_refl _) _ _).trans (Fr.mono hf8 (fun _ _ h => h.elim))))
      clear hf8
      go_wp2
      go_ret
      exact ⟨rfl, HG.out⟩
  · obtain ⟨hv0, _, a', c', hS4, hg4⟩ := HD.out.yes hu
    obtain ⟨rfl, rfl, rfl⟩ : va' = none ∧ vn = 0 ∧ vc = 0 := by simpa using hv0
    have h12 : kd = 1 ∨ kd = 2 := by
      have := hu
      simp only [shUpd, Bool.or_eq_true, Bool.and_eq_true, beq_iff_eq] at this
      omega
    have hb12 : (kd == 1 || kd == 2) = true := by simpa using h12
    rw [hb12]
    have hSAe : SA.err = 0 ∧ SA.did = true ∧ SA.stamp = 0 ∧ SA.spans = [] := by
      rw [hSA.out]
      unfold shAns
      rw [if_neg (by omega), if_neg (by omega), if_pos hu]
      exact ⟨rfl, rfl, rfl, rfl⟩
    obtain ⟨er, hEr⟩ : ∃ er, Hid (er = spendErr 0 D.l kd n e cl) := ⟨_, rfl⟩
    have HAw : Hid (A = if er = 0 then { SA with stamp := cl + 1 } else { err := er }) := by show _ = _; rw [hA.out, wantOf, hu, hSA.out, hEr.out]; rfl
    have HDn : Hid (doneOf 0 D.l n e cl ps kd ky = decide (er = 0)) := by show _ = _; simp [doneOf, hu, hEr.out]
    have HSAe := (show Hid (SA.err = 0 ∧ SA.did = true ∧ SA.stamp = 0 ∧ SA.spans = []) from hSAe)
    have hnp : pb ≠ sb ∧ pb ≠ ub := by
      refine ⟨?_, ?_⟩
      · rintro rfl
        have := HL.out.at_.pl.tg
        rw [HL.out.at_.ts] at this
        simp at this
      · rintro rfl
        have := HL.out.at_.pl.tg
        rw [HL.out.at_.tu] at this
        simp at this
    have HP6 : Hid (At w6 pb D2.cells 80) := HF26.out.at HL.out.at_.pl.at_ (by rintro (h | h); exact hnp.1 h; exact hnp.2 h)
    have hcfg := HL.out.done.cfg
    have HCf := (show Hid (D2.k = 0 ∧ D2.l = D.l) from ⟨hcfg.1.trans HK.out, hcfg.2.2.2.2⟩)
    have hpc := HP6.out.cell
    simp only [PlD.cells, HCf.out.1, HCf.out.2, pv] at hpc
    have hwc := HW6.out.cell
    rw [hSAe.1, hSAe.2.1] at hwc
    have hxc := HX6.out.cell
    have HS6 := (show Hid (ShAt w6 sb a' c' (shNew ps kd ky va)) from hS4.calm HF6.out)
    have HG4 := (show Hid (∀ g, a' = some ⟨g, 0, none⟩ → w3.heap.size ≤ g ∧ g < w4.heap.size) from hg4)
    clear hS4 hg4 hv0 hb12 hcfg hSAe h12
    go_wp2_with fail
    refine wp_region_end 6 (fun w' => Fr (fun k => k = ub) w6 w' ∧ Spent 0 D.l kd n e cl ub w') (by kernel_rfl) (by kernel_rfl) (by kernel_rfl) (by kernel_rfl) (by decide) ?_
    intro U W hU hW
    have hFu : ∀ u, Fr (fun k => k = ub) w6 (W u) := by
      intro u
      rcases hW u with h1 | h1
      · exact Fr.mono h1 (fun _ _ h => h.elim)
      · exact h1.1
    have hpu : ∀ u o, (W u).cell? ⟨pb, o, none⟩ = [Value.pointer (some ⟨D2.L.s, 0, none⟩), .int .i64 0, .int .i64 D2.t, .int .i64 D2.n, .int .i64 D2.e, .int .i64 D.l, D2.bv, D2.ov, D2.fv, D2.dv, .int .i64 D2.puts, .int .i64 D2.takes][o]? := by
      intro u o
      have := ((hFu u).at HP6.out hnp.2).cell o
      simpa only [PlD.cells, HCf.out.1, HCf.out.2, pv] using this
    have hxu : ∀ u o, (W u).cell? ⟨w.heap.size, o, none⟩ = [Value.int .i64 kd, .int .i64 ky, .int .i64 va, .slice sa sp.length sc][o]? := fun u => ((hFu u).at HX6.out (by have := HSB.out.2.1; omega)).cell
    clear hW hFu hpc hxc hwc
    repeat (refine mix_read rfl rfl ?_; go_big_quiet_step (fail); refine wpQuiet_nil ?_)
    refine mix_effC (.int .i64 er) rfl rfl rfl ?_ ?_
    · intro w' hw'
      have hw0 := hw'.1 rfl
      go_simp
      refine Calls.mono (spend_calls (hw0.at HU6.out (fun h => h)) hn he hcl 0 D2.t D2.n D2.e D.l kd ky va (.slice sa sp.length sc) (.inl rfl)) ?_
      rintro r w'' ⟨rfl, hF, hS⟩
      exact ⟨by rw [← hEr.out], (Fr.mono hw0 (fun _ _ h => h.elim)).trans hF, hS⟩
    go_simp
    repeat (refine mix_read rfl rfl ?_; go_big_quiet_step (fail); refine wpQuiet_nil ?_)
    refine mix_nil ?_
    intro w7 hF7 hS7
    clear hpu hxu
    have HF27 := (show Hid (Fr (fun k => k = sb ∨ k = ub) w2 w7) from HF26.out.trans (Fr.mono hF7 (fun _ _ h => .inr h)))
    have HF37 := (show Hid (Fr (fun k => k = sb ∨ k = ub) w3 w7) from ((Fr.mono HF4.out (fun _ _ h => .inl h)).trans (Fr.mono HF6.out (fun _ _ h => h.elim))).trans (Fr.mono hF7 (fun _ _ h => .inr h)))
    have HW7 := (show Hid (At w7 w4.heap.size _ 93) from hF7.at HW6.out hnub')
    have HA7 := (show Hid (At w7 w2.heap.size _ 93) from hF7.at HA6.out (by have := HSB.out.2.1; have := h2l.out; omega))
    have hub : ub < w.heap.size := HSB.out.2.1
    have hsb : sb < w.heap.size := HSB.out.1
    have hsu : sb ≠ ub := HSB.out.2.2
    have h22 : w.heap.size < w2.heap.size := h2l.out
    have h33 : w2.heap.size ≤ w3.heap.size := HF3.out.size
    have h34 : w3.heap.size ≤ w4.heap.size := HF4.out.size
    have HS7 := (show Hid (ShAt w7 sb a' c' (shNew ps kd ky va)) from HS6.out.keepS hF7 hsu (by intro g hg h; have := (HG4.out g hg).1; omega))
    have h47 : w4.heap.size < w7.heap.size := HW7.out.lt
    have HSp := (show Hid (Spent 0 D.l kd n e cl ub w7) from hS7)
    have hwc := HW7.out.cell
    have hwz := HW7.out.frozen
    rw [HSAe.out.1, HSAe.out.2.1] at hwc
    have hac := HA7.out.cell
    clear hF7 hS7 HW6 HA6 HU6 HP6 HX6 HS6
    by_cases h0 : er = 0
    · have HPu := (show Hid (PuAt w7 ub (n - spendN 0 kd) (e - spendE 0 kd) (cl + 1)) from by
        have := HSp.out
        unfold Spent at this
        rw [if_pos (by rw [← hEr.out]; exact h0)] at this
        exact this)
      have huc := HPu.out.cell
      have HC := (show Hid (Calls _ _ _ _ _) from HSame.out (w7.setCell ⟨w4.heap.size, 3, none⟩ (.int .i64 (cl + 1))) none 0 0 { err := 0, did := true, value := SA.value, stamp := cl + 1, spans := [] } (by
        rw [HAw.out, if_pos h0]
        obtain ⟨q1, q2, q3, q4⟩ := HSAe.out
        rw [q1, q2, q4]) (Fr.setNew (by omega) HF27.out _ _) (fun _ => rfl) ⟨rfl, by intro i l hl; simp at hl⟩)
      have HDt : Hid (doneOf 0 D.l n e cl ps kd ky = true) := by show _ = _; rw [HDn.out]; simpa using h0
      subst h0
      go_wp2_with fail
      refine Calls.mono HC.out ?_
      rintro r w8 ⟨rfl, hf8⟩
      have hF28 : Fr (fun k => k = w4.heap.size) w7 w8 := ((Fr.refl _ _).set1 _ _).trans (Fr.mono hf8 (fun _ _ h => h.elim))
      have HG := (show Hid (LoneTo _ _ _ _ _ _ _ _ _ _ _ _ _ _ _ _ _ _ _) from HEnd.out w8 true a' c' (Fr.transNew HF27.out hF28 (fun k hk => .inr (by omega))) HDt.out (HS7.out.keepS hF28 (by omega) (by intro g hg h; have := (HG4.out g hg).2; omega)) (hF28.at HPu.out (by omega)) (by
        intro g hg
        have := HG4.out g hg
        have := hF28.size
        exact .inl ⟨by omega, by omega⟩))
      clear hf8 hF28
      go_wp2
      go_ret
      exact ⟨rfl, HG.out⟩
    · have h0' : (er == 0) = false := by simpa using h0
      have h0'' : (er != 0) = true := by simpa using h0
      have HPu := (show Hid (PuAt w7 ub n e cl) from by
        have := HSp.out
        unfold Spent at this
        rw [if_neg (by rw [← hEr.out]; exact h0)] at this
        exact this)
      have hsc := HS7.out.1.cell
      have hsz := HS7.out.1.frozen
      obtain ⟨w9, hw9⟩ : ∃ w9, w9 = (((((w7.setCell ⟨w4.heap.size, 0, none⟩ (.int .i64 er)).setCell ⟨w4.heap.size, 1, none⟩ (.bool false)).setCell ⟨w4.heap.size, 2, none⟩ (.int .i64 0)).setCell ⟨w4.heap.size, 3, none⟩ (.int .i64 0)).setCell ⟨w4.heap.size, 4, none⟩ (.slice none 0 0)).setCell ⟨sb, 0, none⟩ (.slice a ps.length c) := ⟨_, rfl⟩
      have HF79 : Hid (Fr (fun k => k = w4.heap.size ∨ k = sb) w7 w9) := by
        show Fr _ _ _
        rw [hw9]
        exact ((((((Fr.refl (fun k => k = w4.heap.size ∨ k = sb) w7).setIn (.inl rfl) 0 (.int .i64 er)).setIn (.inl rfl) 1 (.bool false)).setIn (.inl rfl) 2 (.int .i64 0)).setIn (.inl rfl) 3 (.int .i64 0)).setIn (.inl rfl) 4 (.slice none 0 0)).setIn (.inr rfl) 0 (.slice a ps.length c)
      have HF29 : Hid (Fr (fun k => k = sb ∨ k = ub) w2 w9) := Fr.transNew HF27.out HF79.out (fun k hk => by rcases hk with h | h; exact .inr (by omega); exact .inl (.inl h))
      have HS9 : Hid (ShAt w9 sb a c ps) := by
        refine ⟨?_, PairsAt.keepS HS3.out.2 (Fr.transNew HF37.out HF79.out (fun k hk => by rcases hk with h | h; exact .inr (by omega); exact .inl (.inl h))) ?_⟩
        · rw [hw9]
          exact At.set (At.setOther (At.setOther (At.setOther (At.setOther (At.setOther HS7.out.1 _ (show sb ≠ w4.heap.size by omega) _) _ (show sb ≠ w4.heap.size by omega) _) _ (show sb ≠ w4.heap.size by omega) _) _ (show sb ≠ w4.heap.size by omega) _) _ (show sb ≠ w4.heap.size by omega) _) 0 _
        · rintro g hg (rfl | rfl)
          · have := (HTl.out _ hg).2
            rw [HL.out.at_.ts] at this
            simp at this
          · have := (HTl.out _ hg).2
            rw [HL.out.at_.tu] at this
            simp at this
      have HW9 : Hid (At w9 w4.heap.size [.int .i64 er, .bool false, .int .i64 0, .int .i64 0, .slice none 0 0] 93) := by
        show At _ _ _ _
        rw [hw9]
        exact At.setOther (copy5 HW7.out _ _ _ _ _) _ (show w4.heap.size ≠ sb by omega) _
      have HA9 : Hid (At w9 w2.heap.size _ 93) := HF79.out.at HA7.out (by rintro (h | h) <;> omega)
      have HU9 : Hid (PuAt w9 ub n e cl) := HF79.out.at HPu.out (by rintro (h | h) <;> omega)
      have HC := (show Hid (Calls _ _ _ _ _) from HSame.out w9 none 0 0 { err := er } (by rw [HAw.out, if_neg h0]) HF29.out (fun _ => rfl) ⟨rfl, by intro i l hl; simp at hl⟩)
      have HDf : Hid (doneOf 0 D.l n e cl ps kd ky = false) := by show _ = _; rw [HDn.out]; simpa using h0
      have W9 := (show Hid (w9 = _) from hw9)
      have n1 : sb ≠ w4.heap.size := by omega
      have n2 : w4.heap.size ≠ sb := by omega
      have n3 : w2.heap.size ≠ sb := by omega
      clear hw9 h0
      go_wp2_with fail
      rw [← W9.out]
      refine Calls.mono HC.out ?_
      rintro r w8 ⟨rfl, hf8⟩
      have HG := (show Hid (LoneTo _ _ _ _ _ _ _ _ _ _ _ _ _ _ _ _ _ _ _) from HEnd.out w8 false a c (HF29.out.trans (Fr.mono hf8 (fun _ _ h => h.elim))) HDf.out (HS9.out.calm hf8) (hf8.at HU9.out (fun h => h)) (fun g hg => .inr (HTl.out g hg)))
      clear hf8
      go_wp2
      go_ret
      exact ⟨rfl, HG.out⟩
end
end Go.Proofs.YtfccelbmacjifaaGreat

set_option linter.unusedSimpArgs false
namespace Go.Proofs.YtfccelbmacjifaaGreat
open Go.ChangeShapes Go.WideShapes Go.ChangeAt Go.RowKit Go.Joins Go.Deep
theorem Tryz.own : ownKnob Tryz.prog.godebug = none := by kernel_rfl
theorem Tryz.laidOut : laidOutB Tryz.prog = true := by kernel_rfl
theorem Tryz.cellsConfig : Tryz.prog.cellsOf 23 = 5 := by kernel_rfl
theorem Tryz.cellsAct : Tryz.prog.cellsOf 34 = 7 := by kernel_rfl
theorem Tryz.cellsSpan : Tryz.prog.cellsOf 138 = 2 := by kernel_rfl
theorem Tryz.cellsSpans : Tryz.prog.cellsOf 32 = 1 := by kernel_rfl
theorem Tryz.cellsInt : Tryz.prog.cellsOf 3 = 1 := by kernel_rfl

theorem list5 {α : Type} {l : List α} (h : l.length = 5) : ∃ a b c d e, l = [a, b, c, d, e] := by
  match l, h with
  | [a, b, c, d, e], _ => exact ⟨a, b, c, d, e, rfl⟩
theorem array5 {α : Type} {l : Array α} (h : l.size = 5) : ∃ a b c d e, l = #[a, b, c, d, e] := by
  obtain ⟨l⟩ := l
  obtain ⟨a, b, c, d, e, rfl⟩ := list5 (l := l) h
  exact ⟨a, b, c, d, e, rfl⟩
section
variable {H : Type} {enc : TypeId × Value → H} {P : Program} {w : World} {base : Nat} {spare : Nat → Bool} {held : Bool}
theorem trod_struct5 {t : TypeId} {f0 f1 f2 f3 f4 : Field} {fuel : Nat} {cs : List Value} {x : DataW H × List MemPlace} (ht : P.underlying t = some (.struct #[f0, f1, f2, f3, f4])) (h : DataW.trod enc P w base spare held fuel t cs = some x) :
    ∃ y0 y1 y2 y3 y4 n, DataW.trod enc P w base spare held n f0.type ((cs.drop f0.offset).take (P.cellsOf f0.type)) = some y0 ∧
      DataW.trod enc P w base spare held n f1.type ((cs.drop f1.offset).take (P.cellsOf f1.type)) = some y1 ∧ DataW.trod enc P w base spare held n f2.type ((cs.drop f2.offset).take (P.cellsOf f2.type)) = some y2 ∧
      DataW.trod enc P w base spare held n f3.type ((cs.drop f3.offset).take (P.cellsOf f3.type)) = some y3 ∧ DataW.trod enc P w base spare held n f4.type ((cs.drop f4.offset).take (P.cellsOf f4.type)) = some y4 := by
  obtain ⟨xs, n, _, rfl, hl, hlen, hf⟩ := DataW.trod_struct ht h
  obtain ⟨y0, y1, y2, y3, y4, rfl⟩ := list5 (l := xs) hlen
  exact ⟨y0, y1, y2, y3, y4, n, by simpa using hf 0 f0 rfl, by simpa using hf 1 f1 rfl, by simpa using hf 2 f2 rfl, by simpa using hf 3 f3 rfl, by simpa using hf 4 f4 rfl⟩
def rawI (c : Int) : Prop := -9223372036854775808 ≤ c ∧ c ≤ 9223372036854775807
theorem ints5 {r : Reach} {b0 : Nat} {t ti : TypeId} {f0 f1 f2 f3 f4 : Field} {v : Value} {d : DataW H} {p : List MemPlace} (hs : P.underlying t = some (.struct #[f0, f1, f2, f3, f4])) (hone : oneCellFields P #[f0, f1, f2, f3, f4] = true) (hC : P.cellsOf t = 5)
    (hi : P.underlying ti = some (.int .i64)) (h0 : f0.type = ti) (h1 : f1.type = ti) (h2 : f2.type = ti) (h3 : f3.type = ti) (h4 : f4.type = ti)
    (hv : Value.okWide P w r b0 t v) (h : DataW.Trod enc P w base spare held t v d p) : ∃ k t n e l : Int, v = cfg k t n e l ∧ rawI t ∧ rawI n ∧ rawI e ∧ rawI l := by
  obtain ⟨cs, rfl, hsz⟩ := okWide_struct hs hv
  obtain ⟨c0, c1, c2, c3, c4, rfl⟩ := array5 (hsz.trans hC)
  obtain ⟨fuel, hf⟩ := h
  obtain ⟨y0, y1, y2, y3, y4, n, g0, g1, g2, g3, g4⟩ := trod_struct5 hs hf
  obtain ⟨o0, k0⟩ := hone_of hone 0 f0 rfl
  obtain ⟨o1, _⟩ := hone_of hone 1 f1 rfl
  obtain ⟨o2, _⟩ := hone_of hone 2 f2 rfl
  obtain ⟨o3, _⟩ := hone_of hone 3 f3 rfl
  obtain ⟨o4, _⟩ := hone_of hone 4 f4 rfl
  rw [h0] at k0
  simp only [o0, o1, o2, o3, o4, h0, h1, h2, h3, h4, k0] at g0 g1 g2 g3 g4
  obtain ⟨a0, e0, _, _⟩ := DataW.trod_int hi g0
  obtain ⟨a1, e1, _, wf1⟩ := DataW.trod_int hi g1
  obtain ⟨a2, e2, _, wf2⟩ := DataW.trod_int hi g2
  obtain ⟨a3, e3, _, wf3⟩ := DataW.trod_int hi g3
  obtain ⟨a4, e4, _, wf4⟩ := DataW.trod_int hi g4
  have b1 := Go.bounds_i64 wf1
  have b2 := Go.bounds_i64 wf2
  have b3 := Go.bounds_i64 wf3
  have b4 := Go.bounds_i64 wf4
  simp [Value.cells] at e0 e1 e2 e3 e4
  subst e0 e1 e2 e3 e4
  exact ⟨a0, a1, a2, a3, a4, rfl, b1, b2, b3, b4⟩
end
set_option maxRecDepth 100000 in
/-- Settings, as they come in, are five numbers. -/
theorem cfg_open {H : Type} {enc : TypeId × Value → H} {W : World} {r : Reach} {b0 base : Nat} {spare : Nat → Bool} {held : Bool} {v : Value} {d : DataW H} {p : List MemPlace}
    (hv : Value.okWide Tryz.prog W r b0 23 v) (h : DataW.Trod enc Tryz.prog W base spare held 23 v d p) : ∃ k t n e l : Int, v = cfg k t n e l ∧ rawI t ∧ rawI n ∧ rawI e ∧ rawI l :=
  ints5 Tryz.underlying23 (by kernel_rfl) Tryz.cellsConfig Tryz.underlying3 rfl rfl rfl rfl rfl hv h

/-! What the bound gives -/
theorem bulk_one {H : Type} (d : DataW H) : 1 ≤ Rows.uptoBulk d := by
  cases d with
  | lit l => cases l <;> simp [Rows.uptoBulk]
  | nil => simp [Rows.uptoBulk]
  | ptr d => simp [Rows.uptoBulk]
  | slice elems spare => simp [Rows.uptoBulk]
  | agg parts => simp [Rows.uptoBulk]
  | iface t d => simp [Rows.uptoBulk]
  | map entries => simp [Rows.uptoBulk]
  | held h => simp [Rows.uptoBulk]
theorem bulk_part {H : Type} {d : DataW H} : ∀ {l : List (DataW H)}, d ∈ l → Rows.uptoBulk d ≤ Rows.uptoBulkAll l
  | [], h => by cases h
  | x :: r, h => by
    simp only [Rows.uptoBulkAll]
    rcases List.mem_cons.1 h with rfl | e
    · omega
    · have := bulk_part e; omega
theorem bulk_len {H : Type} : ∀ (l : List (DataW H)), l.length ≤ Rows.uptoBulkAll l
  | [] => by simp
  | x :: r => by have h1 := bulk_one x; have h2 := bulk_len r; simp only [Rows.uptoBulkAll, List.length_cons]; omega
set_option maxRecDepth 100000 in
/-- A script, as it comes in. -/
theorem acts_open {H : Type} {enc : TypeId × Value → H} {W : World} {r : Reach} {b0 base : Nat} {spare : Nat → Bool} {held : Bool} {v : Value} {d : DataW H} {p : List MemPlace}
    (hv : Value.okWide Tryz.prog W r b0 24 v) (h : DataW.Trod enc Tryz.prog W base spare held 24 v d p) :
    ∃ sa n c, ∃ acts : List ActD, v = .slice sa n c ∧ n ≤ Rows.uptoBulk d ∧ acts.length = n ∧ ∀ i a, acts[i]? = some a → ActIn W sa i a ∧ a.sn ≤ Rows.uptoBulk d := by
  obtain ⟨fuel, hf⟩ := h
  obtain ⟨sa0, n0, c0, rfl⟩ := okWide_slice Tryz.underlying24 hv
  obtain ⟨sa, n, c, acts, e, h1, h2, h3⟩ := script_open (B := Rows.uptoBulk) Tryz.underlying24 Tryz.underlying34 Tryz.cellsAct rfl rfl rfl rfl rfl rfl rfl rfl rfl rfl rfl rfl rfl rfl Tryz.cellsInt Tryz.underlying3 Tryz.cellsSpans
    Tryz.underlying32 Tryz.underlying138 Tryz.cellsSpan rfl rfl rfl rfl
    (fun elems sp => by have := bulk_len elems; simp only [Rows.uptoBulk]; omega) (fun elems sp d hd => by have := bulk_part hd; simp only [Rows.uptoBulk]; omega) (fun parts d hd => by have := bulk_part hd; simp only [Rows.uptoBulk]; omega) hf
  simp [Value.cells] at e
  obtain ⟨rfl, rfl, rfl⟩ := e
  exact ⟨_, _, _, acts, rfl, h1, h2, h3⟩
end Go.Proofs.YtfccelbmacjifaaGreat

set_option linter.unusedSimpArgs false
namespace Go.Proofs.YtfccelbmacjifaaGreat
open Go.ChangeShapes Go.WideShapes Go.ChangeAt Go.RowKit Go.Joins Go.Deep
/-- What is wanted of the law's own walk. -/
def LawHolds (fn : Nat) : Prop := ∀ (k t n e l : Int) (W : World) (sa : Option Addr) (c : Nat) (acts : List ActD), rawI t → rawI n → rawI e → rawI l → acts.length ≤ 2 ^ 20 → (∀ i a, acts[i]? = some a → ActIn W sa i a ∧ a.sn ≤ 2 ^ 20) →
  Calls Tryz.prog fn #[cfg k t n e l, .slice sa acts.length c] W fun r W' => r = .returned (.bool true) ∧ Fr (fun _ => False) W W'
end Go.Proofs.YtfccelbmacjifaaGreat

set_option linter.unusedSimpArgs false
namespace Go.Proofs.YtfccelbmacjifaaGreat
open Go.RowKit
/-- What plain data must keep, that one operation at a time answers as plain pairs do. -/
structure Quiets (T N E L : Int) (Q : PSt → List (Int × Int) → Int → Int → Int → Prop) : Prop where
  fresh : Q (freshP 0 T N E L) [] N (E - 1) 0
  room : ∀ {P ps n e c}, Q P ps n e c → P.mem.room.1 = n ∧ P.mem.room.2 = e ∧ P.clock = c ∧ (0 ≤ n ∧ n ≤ 64) ∧ (0 ≤ e ∧ e ≤ 256) ∧ (0 ≤ c ∧ c ≤ 2 ^ 41) ∧ ps.length ≤ 64
  idle : ∀ {P ps n e c}, Q P ps n e c → ∀ t ∈ P.ts, t.busy = false
  op : ∀ {P ps n e c} {i : Nat} {t : PThread} (kd ky va : Int) (sp : List (Int × Int)), Q P ps n e c → P.ts[i]? = some t → properB kd ky sp = true →
    ∃ m : Nat, (m : Int) < N + 16 ∧ (∀ j, j < m → (P.setT i { t with busy := true, work := newWork kd ky va sp }).how i j = 1) ∧ (P.setT i { t with busy := true, work := newWork kd ky va sp }).how i m = 3 ∧
      (((P.setT i { t with busy := true, work := newWork kd ky va sp }).iter i m).th i).work.ans = wantOf 0 L n e c ps kd ky sp ∧
      Q ((P.setT i { t with busy := true, work := newWork kd ky va sp }).iter i (m + 1)) (if doneOf 0 L n e c ps kd ky then shNew ps kd ky va else ps) (if doneOf 0 L n e c ps kd ky then n - spendN 0 kd else n) (if doneOf 0 L n e c ps kd ky then e - spendE 0 kd else e) (if doneOf 0 L n e c ps kd ky then c + 1 else c)
  sweep : ∀ {P ps n e c}, Q P ps n e c → (∀ j, j < P.ts.length + 2 → P.swHow j = 1) ∧ P.swHow (P.ts.length + 2) = 3 ∧ Q (P.swIter (P.ts.length + 3)) ps (N - ps.length) (E - ps.length - 1) c
def own00 : Own := fun _ => ⟨0, .store⟩
/-- The law's state after some acts. -/
structure AlSt (W : World) (w : World) (pb sb ub : Nat) (T N E L : Int) (Q : PSt → List (Int × Int) → Int → Int → Int → Prop) (j : Nat) (own : Own) (D : PlD) (ps : List (Int × Int)) (n e c : Int) : Prop where
  at_ : AlAt own 1 w pb sb ub D ps n e c
  ext : Ext own00 own W
  fr : Fr (fun _ => False) W w
  q : Q D.P ps n e c
  ok : D.ok
  cfg : D.k = 0 ∧ D.t = T ∧ D.n = N ∧ D.e = E ∧ D.l = L
  N : D.N ≤ 100 * j
  deeds : D.deeds.length ≤ j
  cnt : 0 ≤ D.puts ∧ D.puts ≤ j ∧ 0 ≤ D.takes ∧ D.takes ≤ j
def AlOn (W : World) (w : World) (pb sb ub : Nat) (T N E L : Int) (Q : PSt → List (Int × Int) → Int → Int → Int → Prop) (j : Nat) : Prop := ∃ own D ps n e c, AlSt W w pb sb ub T N E L Q j own D ps n e c
section
variable {W w w1 w2 : World} {pb sb ub : Nat} {T N E L : Int} {Q : PSt → List (Int × Int) → Int → Int → Int → Prop} {j i : Nat} {own own1 : Own} {D D1 : PlD} {ps : List (Int × Int)} {n e c : Int} {z : Nat}
theorem AlAt.calm (h : AlAt own z w pb sb ub D ps n e c) (hf : Fr (fun _ => False) w w1) (he : Ext own own1 w) : AlAt own1 z w1 pb sb ub D ps n e c :=
  h.player (h.pl.fr hf he (fun _ _ h => h)) he (Fr.mono hf (fun _ _ h => h.elim))
theorem ok_of (hi : ∀ t ∈ D.P.ts, t.busy = false) (hb : ∀ b ∈ D.bs, b = false) (hl : D.bs.length = D.P.ts.length) : D.ok := by
  show D.bs = D.P.ts.map (·.busy)
  apply List.ext_getElem (by simpa using hl)
  intro k h1 h2
  rw [hb _ (List.getElem_mem h1), List.getElem_map, hi _ (List.getElem_mem _)]
theorem ok_all (hi : ∀ t ∈ D.P.ts, t.busy = false) (hk : D.ok) : ∀ b ∈ D.bs, b = false := by
  intro b hb
  rw [hk] at hb
  obtain ⟨t, h1, rfl⟩ := List.mem_map.1 hb
  exact hi t h1
theorem AlSt.calm (h : AlSt W w pb sb ub T N E L Q j own D ps n e c) (hf : Fr (fun _ => False) w w1) : AlSt W w1 pb sb ub T N E L Q j own D ps n e c :=
  ⟨h.at_.calm hf (Ext.refl _ _), h.ext, h.fr.trans hf, h.q, h.ok, h.cfg, h.N, h.deeds, h.cnt⟩
theorem AlSt.more (h : AlSt W w pb sb ub T N E L Q j own D ps n e c) : AlSt W w pb sb ub T N E L Q (j + 1) own D ps n e c :=
  ⟨h.at_, h.ext, h.fr, h.q, h.ok, h.cfg, by have := h.N; omega, by have := h.deeds; omega, by have := h.cnt; omega⟩
/-- What was there at first is not in the zones. -/
theorem AlSt.old (h : AlSt W w pb sb ub T N E L Q j own D ps n e c) {S : Nat → Prop} (hS : ∀ k, S k → 1 ≤ (own k).z) (hf : Fr S w w1) : Fr (fun _ => False) W w1 := by
  refine Fr.transNew h.fr hf ?_
  intro k hk
  right
  rcases Nat.lt_or_ge k W.heap.size with hlt | hge
  · have := hS k hk
    rw [h.ext k hlt] at this
    simp [own00] at this
  · exact hge
theorem AlSt.loned (hQ : Quiets T N E L Q) (h : AlSt W w pb sb ub T N E L Q j own D ps n e c) (he : Ext own own1 w) (hfa : FrA own 1 w w1) {m : Nat} {P1 : PSt} (hm : (m : Int) < N + 16) (hn : N ≤ 64) (hl : Loned D i m P1 D1) {ps' : List (Int × Int)} {n' e' c' : Int} (hA : AlAt own1 1 w1 pb sb ub D1 ps' n' e' c') (hq : Q (P1.iter i (m + 1)) ps' n' e' c') : AlSt W w1 pb sb ub T N E L Q (j + 1) own1 D1 ps' n' e' c' := by
  have hq' : Q D1.P ps' n' e' c' := by rw [hl.P]; exact hq
  refine ⟨hA, Ext.trans h.ext he h.fr.size, h.old (fun k hk => hk.1) hfa, hq', ?_, ?_, by rw [hl.N]; have := h.N; omega, by rw [hl.deeds]; have := h.deeds; omega, by have := h.cnt; have := hl.cnt; omega⟩
  · refine ok_of (hQ.idle hq') ?_ hA.pl.bl
    rw [hl.bs]
    exact ok_all (hQ.idle h.q) h.ok
  · obtain ⟨a1, a2, a3, a4, a5⟩ := hl.cfg
    obtain ⟨b1, b2, b3, b4, b5⟩ := h.cfg
    exact ⟨a1.trans b1, a2.trans b2, a3.trans b3, a4.trans b4, a5.trans b5⟩
end
end Go.Proofs.YtfccelbmacjifaaGreat

