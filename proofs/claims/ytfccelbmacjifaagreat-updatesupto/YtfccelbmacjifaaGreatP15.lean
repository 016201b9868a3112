import Derived.Test.YtfccelbmacjifaaGreatP14
import Derived.Test.YtfccelbmacjifaaGreatP12
namespace Go.Proofs.YtfccelbmacjifaaGreat
open Go.RowKit
theorem infoR {P : Program} {e : TypeId} {z : Option Value} {n m : Nat} (h : (P.info? e).map (fun i => (i.zero, i.size, i.bytes)) = some (z, n, m)) : ∃ i, P.info? e = some i ∧ i.zero = z ∧ i.size = n ∧ i.bytes = m := infoQ h
theorem BSt.restamp_len (c : Int) : ∀ (l : List Nat) (R : BSt), (R.restamp c l).spots.length = R.spots.length
  | [], _ => rfl
  | k :: r, R => by simp only [BSt.restamp, BSt.restamp_len c r, BSt.mapSp_len]
theorem BSt.restamp_ts (c : Int) : ∀ (l : List Nat) (R : BSt), (R.restamp c l).ts = R.ts ∧ (R.restamp c l).clock = R.clock
  | [], _ => ⟨rfl, rfl⟩
  | k :: r, R => by rw [BSt.restamp]; exact BSt.restamp_ts c r _
theorem BSt.restamp_app (c : Int) : ∀ (l : List Nat) (R : BSt) (k : Nat), R.restamp c (l ++ [k]) = (R.restamp c l).mapSp k (stampOf c)
  | [], _, _ => rfl
  | _ :: r, R, k => by simp only [List.cons_append, BSt.restamp, BSt.restamp_app c r]
theorem BSt.restamp_take {R : BSt} {c : Int} {l : List Nat} {k p : Nat} (h : l[k]? = some p) : R.restamp c (l.take (k + 1)) = (R.restamp c (l.take k)).mapSp p (stampOf c) := by
  rw [List.take_add_one, h, Option.toList, BSt.restamp_app]
theorem BSt.restamp_setTh (c : Int) (i : Nat) (t : BThread) : ∀ (l : List Nat) (R : BSt), (R.setTh i t).restamp c l = (R.restamp c l).setTh i t
  | [], _ => rfl
  | k :: r, R => by
    simp only [BSt.restamp]
    rw [← BSt.restamp_setTh c i t r]
    rfl
/-- A new spot, stamped on j of its sides. -/
def stampTo (c : Int) (x : BSpot) : Nat → BSpot
  | 0 => { x with id := c }
  | 1 => stampAt c false { x with id := c }
  | _ => stampAt c true (stampAt c false { x with id := c })
/-- While new spots are stamped. -/
structure Stamping (own : Own) (z : Nat) (w : World) (L : BLay) (R' : BSt) (wr : World) (own' : Own) (L' : BLay) : Prop where
  at_ : BAt own' z wr L' R'
  ext : Ext own own' w
  fr : FrZ own z w wr
  s : L'.s = L.s
  ths : L'.ths = L.ths
theorem Stamping.step {own own2 own3 : Own} {z : Nat} {w wr wr' : World} {L L2 L3 : BLay} {R0 R3 : BSt} (h : Stamping own z w L R0 wr own2 L2) (q : BAt own3 z wr' L3 R3 ∧ Ext own2 own3 wr ∧ FrZ own2 z wr wr') (hs : L3.s = L2.s) (ht : L3.ths = L2.ths) : Stamping own z w L R3 wr' own3 L3 :=
  ⟨q.1, Ext.trans h.ext q.2.1 h.fr.size, FrZ.trans h.fr h.ext q.2.2, hs.trans h.s, ht.trans h.ths⟩
section
variable {own : Own} {z : Nat} {w : World} {L : BLay} {R : BSt}
set_option maxHeartbeats 4000000 in
set_option maxRecDepth 100000 in
/-- Step 8: the clock goes up. -/
theorem takes_go (h : BAt own z w L R) {i : Nat} {l : TLay} {t : BThread} (hl : L.ths[i]? = some l) (ht : R.ts[i]? = some t) (hlim : R.clock ≠ R.limit) (hck : 0 ≤ R.clock ∧ R.clock ≤ 2 ^ 41) (hlog : R.log.length ≤ 2 ^ 41) (hw : ∀ p ∈ t.new, p < R.spots.length) (hb : t.new.length ≤ 2) :
    Calls Tryz.prog 146 #[.pointer (some ⟨L.s, 0, none⟩), .pointer (some ⟨l.b, 0, none⟩)] w fun e w' => e = .returned (.tuple #[]) ∧ Goes own z w L (R.takes i t) w' := by
  obtain ⟨iM, hiM, hzM, hsM, hbM⟩ := infoR Tryz.infoMade
  have hE : Hid (R.takes i t = (({ R with clock := R.clock + 1, log := R.log ++ [⟨R.clock + 1, t.okey, t.ovalue, decide (t.okind = 1)⟩] } : BSt).restamp (R.clock + 1) t.new).setTh i
      { t with ans := { t.ans with did := true, stamp := R.clock + 1 }, at_ := if t.okind = 1 then 10 else 9 }) := by
    show _ = _; unfold BSt.takes; rw [if_neg hlim]
  obtain ⟨ha, haz, hal, hs, hsz, hsl, n1, n2⟩ := h.view hl ht
  have hti : i < R.ts.length := (List.getElem?_eq_some_iff.1 ht).1
  have HB := (show Hid (BAt own z w L R) from h)
  have HL := (show Hid (L.ths[i]? = some l) from hl)
  have Ht := (show Hid (R.ts[i]? = some t) from ht)
  have HT := (show Hid (At w l.b _ _) from (h.thr i l t hl ht).at_)
  have HH := (show Hid (At w L.s _ _) from h.hd)
  have HW := (show Hid (∀ p ∈ t.new, p < R.spots.length) from hw)
  simp only [BThread.cells, BSt.head] at ha hs
  have hd : (R.clock == R.limit) = false := by simp [hlim]
  have hput : Hid ((t.okind == 1) = decide (t.okind = 1)) := by show _ = _; by_cases h : t.okind = 1 <;> simp [h]
  clear h hl ht hw
  go_enter Tryz.func146, Tryz.ntmps146
  go_wp2_with fail
  go_quiet (fail)
  go_wp2_with fail
  -- the world ahead of the log's append
  have hF1 : Fr (fun k => k = L.s) w ((w.drewN nq).setCell ⟨L.s, 5, none⟩ (.int .i64 (R.clock + 1))) := ((Fr.refl _ _).drewN _).set1 _ _
  have hB1 := HB.out.hdSet (R' := { R with clock := R.clock + 1 }) (FrT.one hF1 HB.out.hown rfl) (Ext.refl _ _) ((HH.out.drewN _).set 5 _) rfl rfl rfl rfl
  have hB2 := hB1.thrCells (t' := { t with ans := { t.ans with did := true, stamp := R.clock + 1 } }) HL.out Ht.out (((Fr.refl _ _).set1 26 (.bool true)).set1 28 (.int .i64 (R.clock + 1))) ((((HT.out.drewN nq).setOther ⟨L.s, 5, none⟩ n2 (.int .i64 (R.clock + 1))).set 26 _).set 28 _) rfl rfl rfl rfl rfl rfl rfl
  have hZ2 : FrZ own z w ((((w.drewN nq).setCell ⟨L.s, 5, none⟩ (.int .i64 (R.clock + 1))).setCell ⟨l.b, 26, none⟩ (.bool true)).setCell ⟨l.b, 28, none⟩ (.int .i64 (R.clock + 1))) :=
    FrZ.trans (Fr.mono hF1 (by rintro k _ rfl; rw [HB.out.hown])) (Ext.refl _ _) (hB1.thrZone HL.out Ht.out (((Fr.refl _ _).set1 26 (.bool true)).set1 28 (.int .i64 (R.clock + 1))))
  generalize (((w.drewN nq).setCell ⟨L.s, 5, none⟩ (.int .i64 (R.clock + 1))).setCell ⟨l.b, 26, none⟩ (.bool true)).setCell ⟨l.b, 28, none⟩ (.int .i64 (R.clock + 1)) = w2 at *
  obtain ⟨RA, hRA, hB2⟩ : ∃ RA : BSt, RA = ({ R with clock := R.clock + 1 } : BSt).setTh i { t with ans := { t.ans with did := true, stamp := R.clock + 1 } } ∧ BAt own z w2 L RA := ⟨_, rfl, hB2⟩
  have hRAlog : Hid (RA.log = R.log) := by show _ = _; rw [hRA]; rfl
  have hRAts : RA.ts[i]? = some { t with ans := { t.ans with did := true, stamp := R.clock + 1 } } := by rw [hRA]; simp [BSt.setTh, hti]
  have hRAclock : RA.clock = R.clock + 1 := by rw [hRA]; rfl
  clear ha haz hal hs hsz hsl n1 n2 HB HT HH hF1 hB1
  have hAT := (hB2.thr i l _ HL.out hRAts).at_
  have hAH := hB2.hd
  have M2 := hAT.ne_row hB2.log.row (by decide)
  have M1 := hAH.ne_row hB2.log.row (by decide)
  have hrow1 : (w2.drew.alloc (.cells #[.int .i64 (R.clock + 1), .int .i64 t.okey, .int .i64 t.ovalue, .bool (t.okind == 1)] 212)).ownsRow 0 212 4 L.lv RA.log.length (RA.log.flatMap madeCells) := ownsRow_alloc (World.ownsRow.drew hB2.log.row) _
  obtain ⟨g, gcap, w3, hown, hg, hge, hrun⟩ := push_runs (P := Tryz.prog) (w2.drew.alloc (.cells #[.int .i64 (R.clock + 1), .int .i64 t.okey, .int .i64 t.ovalue, .bool (t.okind == 1)] 212)) 120 120 0 212 iM _ 4 32 Tryz.underlying120 hiM hzM hsM hbM rfl (by decide) _ _ _ hrow1
    w2.heap.size [.int .i64 (R.clock + 1), .int .i64 t.okey, .int .i64 t.ovalue, .bool (t.okind == 1)] rfl 212 (At.newAt rfl _ _) (by simp [Value.oneCell']) (by unfold maxLen; rw [hRAlog.out]; omega) (by rw [hRAlog.out]; omega) (by simp)
  have hT3 : At w3 l.b _ 136 := ((hAT.drew).alloc _).grown hg M2
  have hH3 : At w3 L.s _ 123 := ((hAH.drew).alloc _).grown hg M1
  have hge' : L.lv.ownBlock = some g ∨ w2.heap.size ≤ g := by
    rcases hge with h | h
    · exact .inl h
    · right; simp at h; omega
  have hP := hB2.pushLog (m := ⟨R.clock + 1, t.okey, t.ovalue, t.okind == 1⟩) hown ((((Fr.refl _ _).drew).alloc _).grown hg (fun k hk => .inl hk)) hge'
  have HP := (show Hid (_ ∧ _) from hP)
  have HRun := (show Hid (∀ (o : Oper) (a : Act) (s x : Operand), _) from hrun)
  have HT3 := (show Hid (At w3 l.b _ _) from hT3)
  have HH3 := (show Hid (At w3 L.s _ _) from hH3)
  have HAT := (show Hid (At w2 l.b _ _) from hAT)
  have HAH := (show Hid (At w2 L.s _ _) from hAH)
  have HZ2 := (show Hid (FrZ own z w w2) from hZ2)
  have HRA := (show Hid (RA = _) from hRA)
  have HRAts := (show Hid (RA.ts[i]? = _) from hRAts)
  clear hP hrun hT3 hH3 hAT hAH hown hg hge hge' hrow1 hB2 M1 M2 hZ2 hRA hRAts
  refine wp_region_mix [21, 22, 25] (fun k => match k with | 0 => w2.drew | 1 => w2.drew.alloc (.cells #[.int .i64 (R.clock + 1), .int .i64 t.okey, .int .i64 t.ovalue, .bool (t.okind == 1)] 212) | 2 => w3 | _ => w3.setCell ⟨L.s, 7, none⟩ (.slice (some ⟨g, 0, none⟩) (RA.log.length + 1) gcap)) 2 rfl (by kernel_rfl) (by kernel_rfl) (by kernel_rfl) (by decide) (by kernel_rfl) (by kernel_rfl) (by decide) rfl ?_
  intro W hW
  have ha : ∀ u o, (W u).cell? ⟨l.b, o, none⟩ = (({ t with ans := { t.ans with did := true, stamp := R.clock + 1 } } : BThread).cells l)[o]? := by
    intro u
    obtain ⟨k, hk, he⟩ := hW u
    rw [he]
    rcases (show k = 0 ∨ k = 1 ∨ k = 2 by omega) with rfl | rfl | rfl
    · exact HAT.out.drew.cell
    · exact (HAT.out.drew.alloc _).cell
    · exact HT3.out.cell
  have hs : ∀ u o, (W u).cell? ⟨L.s, o, none⟩ = (RA.head L)[o]? := by
    intro u
    obtain ⟨k, hk, he⟩ := hW u
    rw [he]
    rcases (show k = 0 ∨ k = 1 ∨ k = 2 by omega) with rfl | rfl | rfl
    · exact HAH.out.drew.cell
    · exact (HAH.out.drew.alloc _).cell
    · exact HH3.out.cell
  simp only [BThread.cells, BSt.head, hRAclock] at ha hs
  clear hW
  have hc3 := HH3.out.cell
  have hz3 := HH3.out.frozen
  simp only [BSt.head] at hc3
  repeat (refine mix_read rfl rfl ?_; go_big_quiet_step (fail); refine wpQuiet_nil ?_)
  refine mix_eff (v := .slice (some ⟨w2.heap.size, 0, none⟩) 1 1) rfl rfl rfl ?_ ?_
  · go_simp
    exact ⟨rfl, rfl⟩
  refine mix_eff rfl rfl rfl (HRun.out _ _ _ _ rfl rfl rfl rfl) ?_
  go_simp
  repeat (refine mix_read rfl rfl ?_; go_big_quiet_step (fail); refine wpQuiet_nil ?_)
  refine mix_eff (v := undef) rfl rfl rfl ?_ ?_
  · go_simp
    exact ⟨rfl, rfl⟩
  refine mix_nil ?_
  go_simp
  clear ha hs hc3 hz3 HRun HT3 HH3 HAT HAH
  obtain ⟨hB4, hE4, hF4⟩ := HP.out
  have hZ4 := FrZ.trans HZ2.out (Ext.refl _ _) hF4
  have hE4w : Ext own (own.put g z .log) w := fun k hk => hE4 k (Nat.lt_of_lt_of_le hk HZ2.out.size)
  generalize w3.setCell ⟨L.s, 7, none⟩ (.slice (some ⟨g, 0, none⟩) (RA.log.length + 1) gcap) = w4 at *
  obtain ⟨RB, hRB, hB4⟩ : ∃ RB : BSt, RB = { RA with log := RA.log ++ [⟨R.clock + 1, t.okey, t.ovalue, t.okind == 1⟩] } ∧ BAt _ z w4 _ RB := ⟨_, rfl, hB4⟩
  have HS0 : Hid (Stamping own z w L RB w4 _ _) := ⟨hB4, hE4w, hZ4, rfl, rfl⟩
  have hRBts : RB.ts[i]? = some { t with ans := { t.ans with did := true, stamp := R.clock + 1 } } := by rw [hRB]; exact HRAts.out
  have hRBclock : RB.clock = R.clock + 1 := by rw [hRB]; exact hRAclock
  have hRBlen : RB.spots.length = R.spots.length := by rw [hRB, HRA.out]; rfl
  have HRB := (show Hid (RB = _) from hRB)
  have HRBts := (show Hid (RB.ts[i]? = _) from hRBts)
  clear hB4 hE4 hF4 hZ4 hE4w HP hRB hRBts hRAlog
  go_wp2_with fail
  go_loopw [6, 7, 8] (fun k _ _ wr => ∃ (j : Nat) (own' : Own) (L' : BLay), j ≤ t.new.length ∧ k = .int .i64 j ∧ Hid (Stamping own z w L (RB.restamp (R.clock + 1) (t.new.take j)) wr own' L')) (fun k _ _ _ => t.new.length - (intOf k).toNat)
  case atStart => exact ⟨0, _, _, Nat.zero_le _, rfl, HS0⟩
  case round =>
    obtain ⟨j, own1, L1, hj, rfl, HS⟩ := hrel
    have hts : (RB.restamp (R.clock + 1) (t.new.take j)).ts[i]? = some { t with ans := { t.ans with did := true, stamp := R.clock + 1 } } := by rw [(BSt.restamp_ts _ _ _).1]; exact HRBts.out
    have hRjclock : Hid ((RB.restamp (R.clock + 1) (t.new.take j)).clock = R.clock + 1) := by show _ = _; rw [(BSt.restamp_ts _ _ _).2]; exact hRBclock
    have hL1 : L1.ths[i]? = some l := by rw [HS.out.ths]; exact HL.out
    obtain ⟨ha, haz, hal, hs, hsz, hsl, n1, n2⟩ := HS.out.at_.view hL1 hts
    have hlen : Hid ((RB.restamp (R.clock + 1) (t.new.take j)).spots.length = R.spots.length) := by show _ = _; rw [BSt.restamp_len]; exact hRBlen
    obtain ⟨na, nc, hnv⟩ := ownsRow_slice (HS.out.at_.thr i l _ hL1 hts).new.row
    rw [HS.out.s] at hs hsz hsl n1 n2
    by_cases hlt : j < t.new.length
    · have hp : t.new[j]? = some t.new[j] := List.getElem?_eq_getElem hlt
      have hpl := HW.out _ (List.getElem_mem hlt)
      generalize t.new[j] = p at hp hpl
      have hpl' : p < (RB.restamp (R.clock + 1) (t.new.take j)).spots.length := by rw [hlen.out]; exact hpl
      obtain ⟨sb, cap, hv⟩ := HS.out.at_.svShape (Nat.lt_of_le_of_lt (Nat.zero_le _) hpl')
      simp only [BThread.cells, BSt.head, hv, hnv, hlen.out, hRjclock.out] at ha hs
      obtain ⟨lk, hlk, hck', hkc, hkz, hkl, m1, m2, m3, m4, m5, hAk⟩ := HS.out.at_.viewSp hL1 hts hpl' hv
      rw [HS.out.s] at m3 m4
      simp only [BSpot.cells] at hkc
      obtain ⟨wb, wcap, hwv, _⟩ := ownsRow_shape (HS.out.at_.thr i l _ hL1 hts).new.row (by show t.new.length ≠ 0; omega)
      have how := (HS.out.at_.thr i l _ hL1 hts).new.row
      rw [hwv] at how hnv
      simp only [Value.slice.injEq, true_and] at hnv
      obtain ⟨rfl, rfl⟩ := hnv
      have hcw : wr.cell? ⟨wb, j, none⟩ = some (.int .i64 p) := ownsRow_cell how (by simp [natCells, hp])
      have HA := (show Hid (At wr lk.b _ _) from hAk)
      have HP := (show Hid (t.new[j]? = some p) from hp)
      have HLK := (show Hid (L1.sps[p]? = some lk) from hlk)
      have hx0 : ∃ x0, (RB.restamp (R.clock + 1) (t.new.take j)).sp p = x0 := ⟨_, rfl⟩
      obtain ⟨x0, hx0⟩ := hx0
      have HX0 := (show Hid (_ = x0) from hx0)
      rw [hx0] at hkc HA
      clear hv hAk hts hwv how hp hlk hx0
      go_wp2_with fail
      go_quiet (fail)
      go_wp2_with fail
      have hF5 : Fr (fun k => k = lk.b) wr ((wr.drewN nq).setCell ⟨lk.b, 0, none⟩ (.int .i64 (R.clock + 1))) := ((Fr.refl _ _).drewN _).set1 _ _
      have hB5 := HS.out.at_.spotCells (x' := stampTo (R.clock + 1) x0 0) HLK.out hpl' hF5 ((HA.out.drewN _).set 0 _) (by rw [HX0.out]; rfl)
      have HS5 : Hid (Stamping own z w L { RB.restamp (R.clock + 1) (t.new.take j) with spots := (RB.restamp (R.clock + 1) (t.new.take j)).spots.set p (stampTo (R.clock + 1) x0 0) } ((wr.drewN nq).setCell ⟨lk.b, 0, none⟩ (.int .i64 (R.clock + 1))) own1 L1) :=
        ⟨hB5, HS.out.ext, FrZ.trans HS.out.fr HS.out.ext (HS.out.at_.spotZone HLK.out hpl' hF5), HS.out.s, HS.out.ths⟩
      clear hF5 hB5
      generalize (wr.drewN nq).setCell ⟨lk.b, 0, none⟩ (.int .i64 (R.clock + 1)) = w5 at *
      clear ha haz hal hs hsz hsl n1 n2 hck' hkc hkz hkl m1 m2 m3 m4 m5 hcw HA
      go_loopw [8] (fun s wr2 => ∃ (j2 : Nat) (own2 : Own) (L2 : BLay) (lp : SLay), j2 ≤ 2 ∧ s = .int .i64 j2 ∧ Hid (Stamping own z w L { RB.restamp (R.clock + 1) (t.new.take j) with spots := (RB.restamp (R.clock + 1) (t.new.take j)).spots.set p (stampTo (R.clock + 1) x0 j2) } wr2 own2 L2) ∧ Hid (L2.sps[p]? = some lp) ∧ Hid (lp.b = lk.b)) (fun s _ => 2 - (intOf s).toNat)
      case atStart => exact ⟨0, _, _, lk, by omega, rfl, HS5, HLK, rfl⟩
      case round =>
      clear HS5 HS HLK
      obtain ⟨j2, own2, L2, lp, hj2, rfl, HS2, HLP, hLB⟩ := hrel
      rcases (show j2 = 0 ∨ j2 = 1 ∨ j2 = 2 by omega) with rfl | rfl | rfl
      · have hx2 : ({ RB.restamp (R.clock + 1) (t.new.take j) with spots := (RB.restamp (R.clock + 1) (t.new.take j)).spots.set p (stampTo (R.clock + 1) x0 0) } : BSt).sp p = stampTo (R.clock + 1) x0 0 := by simp [BSt.sp, hpl']
        have hp2 : p < ({ RB.restamp (R.clock + 1) (t.new.take j) with spots := (RB.restamp (R.clock + 1) (t.new.take j)).spots.set p (stampTo (R.clock + 1) x0 0) } : BSt).spots.length := by simp; exact hpl'
        have hS2 := HS2.out.at_.spot p lp _ HLP.out (show ({ RB.restamp (R.clock + 1) (t.new.take j) with spots := (RB.restamp (R.clock + 1) (t.new.take j)).spots.set p (stampTo (R.clock + 1) x0 0) } : BSt).spots[p]? = some (stampTo (R.clock + 1) x0 0) by simp [hpl'])
        have hA2 := hS2.at_
        rw [hLB.out] at hA2
        have hc2 := hA2.cell
        have hz2 := hA2.frozen
        have hl2 := hA2.lt
        have hH2 := HS2.out.at_.hd
        have hs2 := hH2.cell
        rw [HS2.out.s] at hs2
        simp only [BSt.head, hRjclock.out] at hs2
        simp only [BSpot.cells] at hc2
        cases ho : (stampTo (R.clock + 1) x0 0).opn false
        · simp only [ho] at hc2
          have hsame : Hid (stampTo (R.clock + 1) x0 1 = stampTo (R.clock + 1) x0 0) := by
            show _ = _
            show stampAt (R.clock + 1) false (stampTo (R.clock + 1) x0 0) = _
            unfold stampAt; rw [ho]; rfl
          clear hS2 hA2 hH2
          go_wp2
          go_roundw
          case rel => exact ⟨1, own2, L2, lp, by omega, rfl, by rw [hsame.out]; exact HS2, HLP, hLB⟩
          case measure => simp [intOf]
        · simp only [ho] at hc2
          have hsame : Hid (stampTo (R.clock + 1) x0 1 = { stampTo (R.clock + 1) x0 0 with opn := upd (stampTo (R.clock + 1) x0 0).opn false false, st := upd (stampTo (R.clock + 1) x0 0).st false [R.clock + 1] }) := by
            show _ = _
            show stampAt (R.clock + 1) false (stampTo (R.clock + 1) x0 0) = _
            unfold stampAt; rw [ho]; rfl
          have HA2 := (show Hid (At wr lk.b _ _) from hA2)
          clear hS2 hA2 hH2
          go_wp2_with fail
          go_region
          go_wp2
          go_roundw
          case rel =>
            have hXX := fun w' b h1 h2 h3 h4 => HS2.out.at_.stampSide (w' := w') (b := b) HLP.out hp2 false (R.clock + 1) h1 h2 h3 h4
            rw [hx2] at hXX
            simp only [hLB.out, List.set_set] at hXX
            refine ⟨1, own2.put wr.heap.size z (.st p false), { L2 with sps := L2.sps.set p ⟨lk.b, upd lp.st false (.slice (some ⟨wr.heap.size, 0, none⟩) 1 1)⟩ }, ⟨lk.b, upd lp.st false (.slice (some ⟨wr.heap.size, 0, none⟩) 1 1)⟩, by omega, rfl, ?_, ?_, rfl⟩
            · rw [hsame.out]
              refine Stamping.step HS2.out (hXX _ wr.heap.size (Nat.le_refl _) ?_ ?_ ?_) rfl rfl
              · repeat (with_reducible first | refine Fr.set1 ?_ _ _ | refine Fr.alloc ?_ _ | refine Fr.drewN ?_ _ | refine Fr.drew ?_ | exact Fr.refl _ _)
              · exact (((HA2.out.set 8 _).set 6 _).alloc _).drew
              · exact (At.newAt (by simp) _ _).drew
            · show _ = _
              have : p < L2.sps.length := by rw [HS2.out.at_.slen]; exact hp2
              simp [this]
          case measure => simp [intOf]
      · have hx2 : ({ RB.restamp (R.clock + 1) (t.new.take j) with spots := (RB.restamp (R.clock + 1) (t.new.take j)).spots.set p (stampTo (R.clock + 1) x0 1) } : BSt).sp p = stampTo (R.clock + 1) x0 1 := by simp [BSt.sp, hpl']
        have hp2 : p < ({ RB.restamp (R.clock + 1) (t.new.take j) with spots := (RB.restamp (R.clock + 1) (t.new.take j)).spots.set p (stampTo (R.clock + 1) x0 1) } : BSt).spots.length := by simp; exact hpl'
        have hS2 := HS2.out.at_.spot p lp _ HLP.out (show ({ RB.restamp (R.clock + 1) (t.new.take j) with spots := (RB.restamp (R.clock + 1) (t.new.take j)).spots.set p (stampTo (R.clock + 1) x0 1) } : BSt).spots[p]? = some (stampTo (R.clock + 1) x0 1) by simp [hpl'])
        have hA2 := hS2.at_
        rw [hLB.out] at hA2
        have hc2 := hA2.cell
        have hz2 := hA2.frozen
        have hl2 := hA2.lt
        have hH2 := HS2.out.at_.hd
        have hs2 := hH2.cell
        rw [HS2.out.s] at hs2
        simp only [BSt.head, hRjclock.out] at hs2
        simp only [BSpot.cells] at hc2
        cases ho : (stampTo (R.clock + 1) x0 1).opn true
        · simp only [ho] at hc2
          have hsame : Hid (stampTo (R.clock + 1) x0 2 = stampTo (R.clock + 1) x0 1) := by
            show _ = _
            show stampAt (R.clock + 1) true (stampTo (R.clock + 1) x0 1) = _
            unfold stampAt; rw [ho]; rfl
          clear hS2 hA2 hH2
          go_wp2
          go_roundw
          case rel => exact ⟨2, own2, L2, lp, by omega, rfl, by rw [hsame.out]; exact HS2, HLP, hLB⟩
          case measure => simp [intOf]
        · simp only [ho] at hc2
          have hsame : Hid (stampTo (R.clock + 1) x0 2 = { stampTo (R.clock + 1) x0 1 with opn := upd (stampTo (R.clock + 1) x0 1).opn true false, st := upd (stampTo (R.clock + 1) x0 1).st true [R.clock + 1] }) := by
            show _ = _
            show stampAt (R.clock + 1) true (stampTo (R.clock + 1) x0 1) = _
            unfold stampAt; rw [ho]; rfl
          have HA2 := (show Hid (At wr lk.b _ _) from hA2)
          clear hS2 hA2 hH2
          go_wp2_with fail
          go_region
          go_wp2
          go_roundw
          case rel =>
            have hXX := fun w' b h1 h2 h3 h4 => HS2.out.at_.stampSide (w' := w') (b := b) HLP.out hp2 true (R.clock + 1) h1 h2 h3 h4
            rw [hx2] at hXX
            simp only [hLB.out, List.set_set] at hXX
            refine ⟨2, own2.put wr.heap.size z (.st p true), { L2 with sps := L2.sps.set p ⟨lk.b, upd lp.st true (.slice (some ⟨wr.heap.size, 0, none⟩) 1 1)⟩ }, ⟨lk.b, upd lp.st true (.slice (some ⟨wr.heap.size, 0, none⟩) 1 1)⟩, by omega, rfl, ?_, ?_, rfl⟩
            · rw [hsame.out]
              refine Stamping.step HS2.out (hXX _ wr.heap.size (Nat.le_refl _) ?_ ?_ ?_) rfl rfl
              · repeat (with_reducible first | refine Fr.set1 ?_ _ _ | refine Fr.alloc ?_ _ | refine Fr.drewN ?_ _ | refine Fr.drew ?_ | exact Fr.refl _ _)
              · exact (((HA2.out.set 9 _).set 7 _).alloc _).drew
              · exact (At.newAt (by simp) _ _).drew
            · show _ = _
              have : p < L2.sps.length := by rw [HS2.out.at_.slen]; exact hp2
              simp [this]
          case measure => simp [intOf]
      · go_wp2
        go_roundw
        case rel =>
          refine ⟨j + 1, own2, L2, by omega, by go_num, ?_⟩
          rw [BSt.restamp_take HP.out, BSt.mapSp_set hpl', HX0.out, stampOf_eq]
          exact HS2
        case measure => simp [intOf]; omega
    · have hje : j = t.new.length := by omega
      subst hje
      have hall : t.new.take t.new.length = t.new := List.take_length
      simp only [BThread.cells, hnv] at ha
      have HTs := (show Hid (_ = some _) from hts)
      have HL1 := (show Hid (L1.ths[i]? = some l) from hL1)
      have HT := (show Hid (At wr l.b _ _) from (HS.out.at_.thr i l _ hL1 hts).at_)
      have hfin : Hid (∀ n w', Fr (fun k => k = l.b) wr w' → At w' l.b (({ t with ans := { t.ans with did := true, stamp := R.clock + 1 }, at_ := n } : BThread).cells l) 136 → (n = if t.okind = 1 then 10 else 9) → Goes own z w L (R.takes i t) w') := by
        show ∀ n w', _
        intro n w' h1 h2 h3
        have hB := HS.out.at_.thrCells HL1.out HTs.out h1 h2 rfl rfl rfl rfl rfl rfl rfl
        rw [hall, HRB.out, HRA.out] at hB
        rw [hE.out, ← h3, ← hput.out]
        refine ⟨own1, L1, ?_, HS.out.ext, FrZ.trans HS.out.fr HS.out.ext (HS.out.at_.thrZone HL1.out HTs.out h1), HS.out.s, by rw [HS.out.ths]⟩
        have e : ∀ X, ({ ({ R with clock := R.clock + 1 } : BSt).setTh i X with log := (({ R with clock := R.clock + 1 } : BSt).setTh i X).log ++ [⟨R.clock + 1, t.okey, t.ovalue, t.okind == 1⟩] } : BSt) = ({ R with clock := R.clock + 1, log := R.log ++ [⟨R.clock + 1, t.okey, t.ovalue, t.okind == 1⟩] } : BSt).setTh i X := fun _ => rfl
        rw [e, BSt.restamp_setTh] at hB
        simp only [BSt.setTh, List.set_set] at hB ⊢
        exact hB
      clear hts hL1
      cases hk1 : (t.okind == 1)
      · have hk2 : ¬ t.okind = 1 := by simpa using hk1
        go_wp2
        go_end0
        exact ⟨rfl, hfin.out 9 _ ((Fr.refl _ _).set1 _ _) (HT.out.set 6 _) (by rw [if_neg hk2])⟩
      · have hk2 : t.okind = 1 := by simpa using hk1
        go_wp2
        go_end0
        exact ⟨rfl, hfin.out 10 _ (((Fr.refl _ _).set1 _ _).set1 _ _) ((HT.out.set 6 _).set 6 _) (by rw [if_pos hk2])⟩
end
end Go.Proofs.YtfccelbmacjifaaGreat

namespace Go.Proofs.YtfccelbmacjifaaGreat
open Go.RowKit
section
variable {own : Own} {z : Nat} {w : World} {L : BLay} {R : BSt}
set_option maxHeartbeats 2000000 in
theorem holdsL_calls (h : BAt own z w L R) (hk : R.kind = 0) {i : Nat} {l : TLay} {t : BThread} (hl : L.ths[i]? = some l) (ht : R.ts[i]? = some t) (hxs : t.xs = false) (hx : t.x < R.spots.length) (hc : t.c < R.spots.length) :
    Calls Tryz.prog 143 #[.pointer (some ⟨L.s, 0, none⟩), .pointer (some ⟨l.b, 0, none⟩)] w fun e w' => e = .returned (.bool (R.holds t)) ∧ ∃ n, w' = w.drewN n := by
  have hE : Hid (R.holds t = if (R.sp t.x).dead = true ∨ (R.sp t.x).now t.xs ≠ t.c then false else !(R.sp t.c).dead) := by show _ = _; simp only [BSt.holds, hk, if_true]
  obtain ⟨ha, haz, hal, hs, hsz, hsl, n1, n2⟩ := h.view hl ht
  obtain ⟨sb, cap, hv⟩ := h.svShape (by omega)
  obtain ⟨lx, hlx, hxp, hxc, hxz, hxl, m1, m2, m3, m4, m5, hAx⟩ := h.viewSp hl ht hx hv
  obtain ⟨lc, hlc, hcp, hcc, hcz, hcl, k1, k2, k3, k4, k5, hAc⟩ := h.viewSp hl ht hc hv
  simp only [BThread.cells, BSt.head, hxs, hk, hv, b2i_false] at ha hs
  simp only [BSpot.cells] at hxc hcc
  clear h hl ht hlx hlc hv hAx hAc
  by_cases hd : (R.sp t.x).dead = true
  · rw [hd] at hxc
    have hR : Hid (R.holds t = false) := by show _ = _; rw [hE.out, if_pos (.inl hd)]
    clear hE hd
    go_enter Tryz.func143, Tryz.ntmps143
    repeat (go_wp2_with fail; go_quiet (fail))
    go_wp2_with fail
    go_ret
    exact ⟨ret_bool hR.out.symm, by first | exact ⟨_, rfl⟩ | exact ⟨_, World.drewN_drewN ..⟩⟩
  · have hd' : (R.sp t.x).dead = false := by simpa using hd
    rw [hd'] at hxc
    by_cases hn : (R.sp t.x).now false = t.c
    · have hR : Hid (R.holds t = !(R.sp t.c).dead) := by show _ = _; rw [hE.out, if_neg (by rw [hxs]; simp [hd', hn])]
      rw [hn] at hxc
      clear hE hd hd'
      go_enter Tryz.func143, Tryz.ntmps143
      repeat (go_wp2_with fail; go_quiet (fail))
      go_wp2_with fail
      go_ret
      exact ⟨ret_bool hR.out.symm, by first | exact ⟨_, rfl⟩ | exact ⟨_, World.drewN_drewN ..⟩⟩
    · have hR : Hid (R.holds t = false) := by show _ = _; rw [hE.out, if_pos (.inr (by rw [hxs]; exact hn))]
      have hn' : ((((R.sp t.x).now false : Nat) : Int) != (t.c : Int)) = true := by simp; omega
      clear hE hd hd'
      go_enter Tryz.func143, Tryz.ntmps143
      repeat (go_wp2_with fail; go_quiet (fail))
      go_wp2_with fail
      go_ret
      exact ⟨ret_bool hR.out.symm, by first | exact ⟨_, rfl⟩ | exact ⟨_, World.drewN_drewN ..⟩⟩
end
end Go.Proofs.YtfccelbmacjifaaGreat

namespace Go.Proofs.YtfccelbmacjifaaGreat
open Go.RowKit
theorem BSt.unown_kind : ∀ (l : List Nat) (R : BSt), (R.unown l).kind = R.kind ∧ (R.unown l).clock = R.clock
  | [], _ => ⟨rfl, rfl⟩
  | k :: r, R => by rw [BSt.unown]; exact BSt.unown_kind r _
theorem BSt.gives_th {R : BSt} {i : Nat} {t : BThread} (ht : R.ts[i]? = some t) : (R.gives i t).ts[i]? = some { t with have_ := 0 } := by
  have hi := (List.getElem?_eq_some_iff.1 ht).1
  simp [BSt.gives, BSt.setTh, BSt.unown_ts, hi]
section
variable {own : Own} {z : Nat} {w : World} {L : BLay} {R : BSt}
set_option maxHeartbeats 2000000 in
set_option maxRecDepth 100000 in
/-- Step 12 in a list. -/
theorem turns12L (h : BAt own z w L R) (hk : R.kind = 0) {i : Nat} {l : TLay} {t : BThread} (hl : L.ths[i]? = some l) (ht : R.ts[i]? = some t) (hat : t.at_ = 12) (hh : t.have_ ≤ t.want.length) (hw : ∀ p ∈ t.want, p < R.spots.length) (hb : t.want.length ≤ 2) (hc : t.c < R.spots.length) :
    Calls Tryz.prog 118 #[.pointer (some ⟨L.s, 0, none⟩), .pointer (some ⟨l.b, 0, none⟩)] w fun e w' => e = .returned (.tuple #[]) ∧ BAt own z w' L (R.turns i t) ∧ FrZ own z w w' := by
  have hE : Hid (R.turns i t = (if t.okind = 2 ∧ t.ans.did = true then (R.unown (t.want.take t.have_)).mapSp t.c (fun x => { x with out := R.clock }) else R.unown (t.want.take t.have_)).setTh i { t with have_ := 0, at_ := 13 }) := by
    show _ = _
    have hk1 : ¬ R.kind = 1 := by omega
    simp only [BSt.turns, hat, if_neg hk1]
  obtain ⟨ha, haz, hal, hs, hsz, hsl, n1, n2⟩ := h.view hl ht
  simp only [BThread.cells, BSt.head, hat] at ha hs
  have HB := (show Hid (BAt own z w L R) from h)
  have HL := (show Hid (L.ths[i]? = some l) from hl)
  have Ht := (show Hid (R.ts[i]? = some t) from ht)
  have HW := (show Hid (∀ p ∈ t.want, p < R.spots.length) from hw)
  clear h hl ht hw
  go_enter Tryz.func118, Tryz.ntmps118
  go_wp2_with fail
  refine (gives_calls HB.out HL.out Ht.out hh HW.out hb).mono ?_
  rintro e w1 ⟨rfl, hB1, hF1⟩
  clear ha haz hal hs hsz hsl n1 n2
  have HT1 := (show Hid ((R.gives i t).ts[i]? = _) from BSt.gives_th Ht.out)
  have hc1 : t.c < (R.gives i t).spots.length := by simp only [BSt.gives, BSt.setTh, BSt.unown_len]; exact hc
  obtain ⟨ha, haz, hal, hs, hsz, hsl, n1, n2⟩ := hB1.view HL.out HT1.out
  obtain ⟨sb, cap, hv⟩ := hB1.svShape (by omega)
  obtain ⟨lc, hlc, hcp, hcc, hcz, hcl, k1, k2, k3, k4, k5, hAc⟩ := hB1.viewSp HL.out HT1.out hc1 hv
  have n3 := (hB1.thr i l _ HL.out HT1.out).at_.ne_row hB1.sp.row (by decide)
  rw [hv] at n3
  have n3' : sb ≠ l.b := by simpa [Value.ownBlock] using n3
  have hK : Hid ((R.gives i t).kind = 0) := by show _ = _; rw [BSt.gives, BSt.setTh, (BSt.unown_kind _ _).1]; exact hk
  have hCk : Hid ((R.gives i t).clock = R.clock) := by show _ = _; rw [BSt.gives, BSt.setTh, (BSt.unown_kind _ _).2]
  simp only [BThread.cells, BSt.head, hv, hK.out, hCk.out] at ha hs
  simp only [BSpot.cells] at hcc
  have HB1 := (show Hid (BAt own z w1 L (R.gives i t)) from hB1)
  have HF1 := (show Hid (FrZ own z w w1) from hF1)
  have HA := (show Hid (At w1 lc.b _ _) from hAc)
  have HT := (show Hid (At w1 l.b _ _) from (hB1.thr i l _ HL.out HT1.out).at_)
  have HLC := (show Hid (L.sps[t.c]? = some lc) from hlc)
  clear hB1 hF1 hAc hlc hv n3
  by_cases hkd : t.okind = 2
  · rw [hkd] at ha
    cases hdid : t.ans.did
    · rw [hdid] at ha
      repeat (go_wp2_with fail; go_quiet (fail))
      go_wp2_with fail
      go_end0
      rw [hE.out, if_neg (by rw [hdid]; simp)]
      refine ⟨rfl, ?_, ?_⟩
      · have hX := HB1.out.thrCells HL.out HT1.out (t' := { t with have_ := 0, at_ := 13 }) (w' := w1.setCell ⟨l.b, 6, none⟩ (.int .i64 13)) ((Fr.refl _ _).set1 _ _) (HT.out.set 6 _) rfl rfl rfl rfl rfl rfl rfl
        simp only [BSt.gives, BSt.setTh, List.set_set] at hX
        exact hX
      · exact FrZ.trans HF1.out (Ext.refl _ _) (HB1.out.thrZone HL.out HT1.out ((Fr.refl _ _).set1 _ _))
    · rw [hdid] at ha
      go_wp2_with fail
      go_region
      go_wp2_with fail
      go_end0
      rw [hE.out, if_pos ⟨hkd, hdid⟩]
      have hc2 : t.c < (R.unown (t.want.take t.have_)).spots.length := by rw [BSt.unown_len]; exact hc
      rw [BSt.mapSp_set hc2]
      have hX := fun w' h1 h2 h3 => HB1.out.bothCells (w' := w') HL.out HT1.out (t' := { t with have_ := 0, at_ := 13 }) (x' := { (R.gives i t).sp t.c with out := R.clock }) HLC.out hc1 h1 h2 h3 rfl rfl rfl rfl rfl rfl rfl rfl
      simp only [BSt.gives, BSt.setTh, List.set_set] at hX
      refine ⟨rfl, And.imp_right (fun hz => FrZ.trans HF1.out (Ext.refl _ _) hz) (hX _ ?_ ?_ ?_)⟩
      · repeat (with_reducible first | refine Fr.setIn (.inl rfl) ?_ _ _ | refine Fr.setIn (.inr rfl) ?_ _ _ | refine Fr.alloc ?_ _ | refine Fr.drewN ?_ _ | refine Fr.drew ?_ | exact Fr.refl _ _)
      · exact ((HT.out.setOther _ k2 _).set 6 _).drew
      · exact ((HA.out.set 12 _).setOther _ k1 _).drew
  · have hd : (t.okind == 2) = false := by simp [hkd]
    repeat (go_wp2_with fail; go_quiet (fail))
    go_wp2_with fail
    go_end0
    rw [hE.out, if_neg (fun h => hkd h.1)]
    refine ⟨rfl, ?_, ?_⟩
    · have hX := HB1.out.thrCells HL.out HT1.out (t' := { t with have_ := 0, at_ := 13 }) (w' := w1.setCell ⟨l.b, 6, none⟩ (.int .i64 13)) ((Fr.refl _ _).set1 _ _) (HT.out.set 6 _) rfl rfl rfl rfl rfl rfl rfl
      simp only [BSt.gives, BSt.setTh, List.set_set] at hX
      exact hX
    · exact FrZ.trans HF1.out (Ext.refl _ _) (HB1.out.thrZone HL.out HT1.out ((Fr.refl _ _).set1 _ _))
end
end Go.Proofs.YtfccelbmacjifaaGreat

namespace Go.Proofs.YtfccelbmacjifaaGreat
open Go.RowKit
section
variable {own : Own} {z : Nat} {w : World} {L : BLay} {R : BSt}
set_option maxHeartbeats 2000000 in
set_option maxRecDepth 100000 in
/-- Step 6 in a list. -/
theorem turns6L (h : BAt own z w L R) (hk : R.kind = 0) {i : Nat} {l : TLay} {t : BThread} (hl : L.ths[i]? = some l) (ht : R.ts[i]? = some t) (hat : t.at_ = 6) (hxs : t.xs = false) (hx : t.x < R.spots.length) (hc : t.c < R.spots.length)
    (hh : t.have_ ≤ t.want.length) (hw : ∀ p ∈ t.want, p < R.spots.length) (hb : t.want.length ≤ 2) :
    Calls Tryz.prog 118 #[.pointer (some ⟨L.s, 0, none⟩), .pointer (some ⟨l.b, 0, none⟩)] w fun e w' => e = .returned (.tuple #[]) ∧ BAt own z w' L (R.turns i t) ∧ FrZ own z w w' := by
  have hE : Hid (R.turns i t = if R.holds t then R.setTh i (if decide ((R.sp t.c).key = t.okey) = decide (t.okind = 1) then { t with ans := { t.ans with stamp := R.clock }, at_ := 12 } else { t with at_ := 7 }) else (R.gives i t).setTh i ({ t with have_ := 0 } : BThread).home) := by
    show _ = _
    simp only [BSt.turns, hat]
  obtain ⟨ha, haz, hal, hs, hsz, hsl, n1, n2⟩ := h.view hl ht
  simp only [BThread.cells, BSt.head, hat] at ha hs
  have HB := (show Hid (BAt own z w L R) from h)
  have HL := (show Hid (L.ths[i]? = some l) from hl)
  have Ht := (show Hid (R.ts[i]? = some t) from ht)
  have HW := (show Hid (∀ p ∈ t.want, p < R.spots.length) from hw)
  clear h hl ht hw
  cases hH : R.holds t
  · have hE1 : Hid (R.turns i t = (R.gives i t).setTh i ({ t with have_ := 0 } : BThread).home) := by show _ = _; rw [hE.out, hH]; rfl
    clear hE
    go_enter Tryz.func118, Tryz.ntmps118
    go_wp2_with fail
    refine (holdsL_calls HB.out hk HL.out Ht.out hxs hx hc).mono ?_
    rintro e w1 ⟨rfl, n, rfl⟩
    rw [hH]
    go_wp2_with fail
    refine (gives_calls (HB.out.drewN n) HL.out Ht.out hh HW.out hb).mono ?_
    rintro e w1 ⟨rfl, hB1, hF1⟩
    clear ha haz hs hsz
    have HB1 := (show Hid (BAt own z w1 L (R.gives i t)) from hB1)
    have HF1 := (show Hid (FrZ own z (w.drewN n) w1) from hF1)
    have HT1 := (show Hid ((R.gives i t).ts[i]? = _) from BSt.gives_th Ht.out)
    have HT := (show Hid (At w1 l.b _ _) from (hB1.thr i l _ HL.out HT1.out).at_)
    clear hB1 hF1
    go_wp2_with fail
    refine (home_calls HT.out).mono ?_
    rintro e w2 ⟨rfl, hA2, hF2⟩
    have HA2 := (show Hid (At w2 l.b _ _) from hA2)
    have HF2 := (show Hid (Fr _ w1 w2) from hF2)
    clear hA2 hF2
    go_wp2_with fail
    (try simp only [Exit.inBlock, Exit.then])
    refine bodyPost_ret (results_none rfl _ _ _) rfl ?_
    rw [hE1.out]
    refine ⟨rfl, HB1.out.thrCells HL.out HT1.out HF2.out HA2.out rfl rfl rfl rfl rfl rfl rfl, ?_⟩
    exact FrZ.trans (FrZ.trans ((Fr.refl _ _).drewN n) (Ext.refl _ _) HF1.out) (Ext.refl _ _) (HB1.out.thrZone HL.out HT1.out HF2.out)
  · have hE1 : Hid (R.turns i t = R.setTh i (if decide ((R.sp t.c).key = t.okey) = decide (t.okind = 1) then { t with ans := { t.ans with stamp := R.clock }, at_ := 12 } else { t with at_ := 7 })) := by show _ = _; rw [hE.out, hH]; rfl
    clear hE
    obtain ⟨sb, cap, hv⟩ := HB.out.svShape (by omega)
    obtain ⟨lc, hlc, hcp, hcc, hcz, hcl, k1, k2, k3, k4, k5, hAc⟩ := HB.out.viewSp HL.out Ht.out hc hv
    rw [hv] at hs
    simp only [BSpot.cells] at hcc
    have HT := (show Hid (At w l.b _ _) from (HB.out.thr i l t HL.out Ht.out).at_)
    clear hlc hv hAc
    have hcase : (((R.sp t.c).key == t.okey) = true ∧ (t.okind == 1) = true) ∨ (((R.sp t.c).key == t.okey) = true ∧ (t.okind == 1) = false) ∨ (((R.sp t.c).key == t.okey) = false ∧ (t.okind == 1) = true) ∨ (((R.sp t.c).key == t.okey) = false ∧ (t.okind == 1) = false) := by
      cases (R.sp t.c).key == t.okey <;> cases t.okind == 1 <;> simp
    rcases hcase with ⟨q1, q2⟩ | ⟨q1, q2⟩ | ⟨q1, q2⟩ | ⟨q1, q2⟩
    · have p1 := q1
      have p2 := q2
      simp at p1 p2
      have hE2 : Hid (R.turns i t = R.setTh i { t with ans := { t.ans with stamp := R.clock }, at_ := 12 }) := by show _ = _; rw [hE1.out, if_pos (by simp [p1, p2])]
      clear p1 p2 hE1
      go_enter Tryz.func118, Tryz.ntmps118
      go_wp2_with fail
      refine (holdsL_calls HB.out hk HL.out Ht.out hxs hx hc).mono ?_
      rintro e w1 ⟨rfl, n, rfl⟩
      rw [hH]
      repeat (go_wp2_with fail; go_quiet (fail))
      go_wp2_with fail
      go_end0
      rw [hE2.out]
      refine ⟨rfl, HB.out.thrCells HL.out Ht.out ?_ ?_ rfl rfl rfl rfl rfl rfl rfl, HB.out.thrZone HL.out Ht.out ?_⟩
      · repeat (with_reducible first | refine Fr.set1 ?_ _ _ | refine Fr.alloc ?_ _ | refine Fr.drewN ?_ _ | refine Fr.drew ?_ | exact Fr.refl _ _)
      · exact ((((HT.out.drewN _).set 6 _).set 28 _).set 6 _)
      · repeat (with_reducible first | refine Fr.set1 ?_ _ _ | refine Fr.alloc ?_ _ | refine Fr.drewN ?_ _ | refine Fr.drew ?_ | exact Fr.refl _ _)
    · have p1 := q1
      have p2 := q2
      simp at p1 p2
      have hE2 : Hid (R.turns i t = R.setTh i { t with at_ := 7 }) := by show _ = _; rw [hE1.out, if_neg (by simp [p1, p2])]
      clear p1 p2 hE1
      go_enter Tryz.func118, Tryz.ntmps118
      go_wp2_with fail
      refine (holdsL_calls HB.out hk HL.out Ht.out hxs hx hc).mono ?_
      rintro e w1 ⟨rfl, n, rfl⟩
      rw [hH]
      repeat (go_wp2_with fail; go_quiet (fail))
      go_wp2_with fail
      go_end0
      rw [hE2.out]
      refine ⟨rfl, HB.out.thrCells HL.out Ht.out ?_ ?_ rfl rfl rfl rfl rfl rfl rfl, HB.out.thrZone HL.out Ht.out ?_⟩
      · repeat (with_reducible first | refine Fr.set1 ?_ _ _ | refine Fr.alloc ?_ _ | refine Fr.drewN ?_ _ | refine Fr.drew ?_ | exact Fr.refl _ _)
      · exact ((HT.out.drewN _).set 6 _)
      · repeat (with_reducible first | refine Fr.set1 ?_ _ _ | refine Fr.alloc ?_ _ | refine Fr.drewN ?_ _ | refine Fr.drew ?_ | exact Fr.refl _ _)
    · have p1 := q1
      have p2 := q2
      simp at p1 p2
      have hE2 : Hid (R.turns i t = R.setTh i { t with at_ := 7 }) := by show _ = _; rw [hE1.out, if_neg (by simp [p1, p2])]
      clear p1 p2 hE1
      go_enter Tryz.func118, Tryz.ntmps118
      go_wp2_with fail
      refine (holdsL_calls HB.out hk HL.out Ht.out hxs hx hc).mono ?_
      rintro e w1 ⟨rfl, n, rfl⟩
      rw [hH]
      repeat (go_wp2_with fail; go_quiet (fail))
      go_wp2_with fail
      go_end0
      rw [hE2.out]
      refine ⟨rfl, HB.out.thrCells HL.out Ht.out ?_ ?_ rfl rfl rfl rfl rfl rfl rfl, HB.out.thrZone HL.out Ht.out ?_⟩
      · repeat (with_reducible first | refine Fr.set1 ?_ _ _ | refine Fr.alloc ?_ _ | refine Fr.drewN ?_ _ | refine Fr.drew ?_ | exact Fr.refl _ _)
      · exact ((HT.out.drewN _).set 6 _)
      · repeat (with_reducible first | refine Fr.set1 ?_ _ _ | refine Fr.alloc ?_ _ | refine Fr.drewN ?_ _ | refine Fr.drew ?_ | exact Fr.refl _ _)
    · have p1 := q1
      have p2 := q2
      simp at p1 p2
      have hE2 : Hid (R.turns i t = R.setTh i { t with ans := { t.ans with stamp := R.clock }, at_ := 12 }) := by show _ = _; rw [hE1.out, if_pos (by simp [p1, p2])]
      clear p1 p2 hE1
      go_enter Tryz.func118, Tryz.ntmps118
      go_wp2_with fail
      refine (holdsL_calls HB.out hk HL.out Ht.out hxs hx hc).mono ?_
      rintro e w1 ⟨rfl, n, rfl⟩
      rw [hH]
      repeat (go_wp2_with fail; go_quiet (fail))
      go_wp2_with fail
      go_end0
      rw [hE2.out]
      refine ⟨rfl, HB.out.thrCells HL.out Ht.out ?_ ?_ rfl rfl rfl rfl rfl rfl rfl, HB.out.thrZone HL.out Ht.out ?_⟩
      · repeat (with_reducible first | refine Fr.set1 ?_ _ _ | refine Fr.alloc ?_ _ | refine Fr.drewN ?_ _ | refine Fr.drew ?_ | exact Fr.refl _ _)
      · exact ((((HT.out.drewN _).set 6 _).set 28 _).set 6 _)
      · repeat (with_reducible first | refine Fr.set1 ?_ _ _ | refine Fr.alloc ?_ _ | refine Fr.drewN ?_ _ | refine Fr.drew ?_ | exact Fr.refl _ _)
end
end Go.Proofs.YtfccelbmacjifaaGreat

