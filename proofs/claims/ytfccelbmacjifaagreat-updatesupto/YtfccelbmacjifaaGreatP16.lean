import Derived.Test.YtfccelbmacjifaaGreatP13
import Derived.Test.YtfccelbmacjifaaGreatP12
import Derived.Test.YtfccelbmacjifaaGreatP15
namespace Go.Proofs.YtfccelbmacjifaaGreat
open Go.RowKit
theorem Tryz.infoInt : (Tryz.prog.info? 3).map (fun i => (i.zero, i.size, i.bytes)) = some (some (.int .i64 0), 1, 8) := by kernel_rfl
theorem infoP {P : Program} {e : TypeId} {z : Option Value} {n m : Nat} (h : (P.info? e).map (fun i => (i.zero, i.size, i.bytes)) = some (z, n, m)) : ∃ i, P.info? e = some i ∧ i.zero = z ∧ i.size = n ∧ i.bytes = m := by
  cases hi : P.info? e with
  | none => rw [hi] at h; simp at h
  | some i => rw [hi] at h; simp at h; exact ⟨i, rfl, h.1, h.2.1, h.2.2⟩
section
variable {own : Own} {z : Nat} {w : World} {L : BLay} {R : BSt}
set_option maxHeartbeats 4000000 in
set_option maxRecDepth 100000 in
/-- Step 11 in a list. -/
theorem turns11L (h : BAt own z w L R) {i : Nat} {l : TLay} {t : BThread} (hl : L.ths[i]? = some l) (ht : R.ts[i]? = some t) (hat : t.at_ = 11) (hsd : t.side = false) (hc : t.src < R.spots.length) (hn : ((R.sp t.src).st false).length ≤ 2 ^ 40) :
    Calls Tryz.prog 118 #[.pointer (some ⟨L.s, 0, none⟩), .pointer (some ⟨l.b, 0, none⟩)] w fun e w' => e = .returned (.tuple #[]) ∧ Goes own z w L (R.turns i t) w' := by
  obtain ⟨iI, hiI, hzI, hsI, hbI⟩ := infoP Tryz.infoInt
  have hE : Hid (R.turns i t = (R.mapSp t.src fun x => { x with opn := upd x.opn false false, st := upd x.st false (x.st false ++ [t.ans.stamp]) }).setTh i { t with at_ := 12 }) := by
    show _ = _
    simp only [BSt.turns, hat, hsd]
  obtain ⟨ha, haz, hal, hs, hsz, hsl, n1, n2⟩ := h.view hl ht
  obtain ⟨sb, cap, hv⟩ := h.svShape (by omega)
  obtain ⟨lc, hlc, hcp, hcc, hcz, hcl, k1, k2, k3, k4, k5, hAc⟩ := h.viewSp hl ht hc hv
  have n3 := (h.thr i l t hl ht).at_.ne_row h.sp.row (by decide)
  rw [hv] at n3
  have n3' : sb ≠ l.b := by simpa [Value.ownBlock] using n3
  simp only [BThread.cells, BSt.head, hat, hv, hsd, b2i_false] at ha hs
  simp only [BSpot.cells] at hcc
  have HB := (show Hid (BAt own z w L R) from h)
  have HL := (show Hid (L.ths[i]? = some l) from hl)
  have Ht := (show Hid (R.ts[i]? = some t) from ht)
  have HA := (show Hid (At w lc.b _ _) from hAc)
  have HT := (show Hid (At w l.b _ _) from (h.thr i l t hl ht).at_)
  have HLC := (show Hid (L.sps[t.src]? = some lc) from hlc)
  have HS := (show Hid (SpAt own z w t.src lc (R.sp t.src)) from h.spot _ _ _ hlc (by simp [BSt.sp, hc]))
  clear h hl ht hlc hv hAc n3
  go_enter Tryz.func118, Tryz.ntmps118
  go_wp2_with fail
  go_quiet (fail)
  go_wp2_with fail
  go_region
  go_wp2_with fail
  have hF2 : Fr (fun k => k = lc.b) w ((w.drewN (nq + 1)).setCell ⟨lc.b, 8, none⟩ (.bool false)) := ((Fr.refl _ _).drewN _).set1 _ _
  have hA2 : At ((w.drewN (nq + 1)).setCell ⟨lc.b, 8, none⟩ (.bool false)) lc.b (({ R.sp t.src with opn := upd (R.sp t.src).opn false false } : BSpot).cells lc) 130 := (HA.out.drewN _).set 8 _
  have hB2 := HB.out.spotCells HLC.out hc hF2 hA2 rfl
  have hZ2 := HB.out.spotZone HLC.out hc hF2
  generalize (w.drewN (nq + 1)).setCell ⟨lc.b, 8, none⟩ (.bool false) = w2 at *
  clear ha haz hal hs hsz hsl n1 n2 hcp hcc hcz hcl HB HA HT hF2
  obtain ⟨ha, haz, hal, hs, hsz, hsl, n1, n2⟩ := hB2.view HL.out Ht.out
  have hcc := hA2.cell
  have hcz := hA2.frozen
  have hcl := hA2.lt
  simp only [BThread.cells, hat, hsd, b2i_false] at ha
  simp only [BSpot.cells] at hcc
  have hR2 := hB2.spot _ _ _ HLC.out (show ({ R with spots := R.spots.set t.src { R.sp t.src with opn := upd (R.sp t.src).opn false false } } : BSt).spots[t.src]? = some { R.sp t.src with opn := upd (R.sp t.src).opn false false } by simp [hc])
  have hrow := (hR2.st false).row
  have m1 := hA2.ne_row hrow (by decide)
  have m2 := (hB2.thr i l t HL.out Ht.out).at_.ne_row hrow (by decide)
  have HB2 := (show Hid (BAt own z w2 L _) from hB2)
  have HZ2 := (show Hid (FrZ own z w w2) from hZ2)
  have HA2 := (show Hid (At w2 lc.b _ _) from hA2)
  have HT2 := (show Hid (At w2 l.b _ _) from (hB2.thr i l t HL.out Ht.out).at_)
  have Hrow := (show Hid (w2.ownsRow 0 _ _ _ _ _) from hrow)
  have M1 := (show Hid ((lc.st false).ownBlock ≠ some lc.b) from m1)
  have M2 := (show Hid ((lc.st false).ownBlock ≠ some l.b) from m2)
  have HSt := (show Hid (SpAt own z w2 t.src lc _) from hR2)
  clear hB2 hZ2 hA2 hrow m1 m2 hR2 hs hsz
  have hrow1 : (w2.drew.alloc (.cells #[.int .i64 t.ans.stamp] 3)).ownsRow 0 3 1 (lc.st false) ((R.sp t.src).st false).length (intCells ((R.sp t.src).st false)) := ownsRow_alloc (World.ownsRow.drew Hrow.out) _
  obtain ⟨g, gcap, w3, hown, hg, hge, hrun⟩ := push_runs (P := Tryz.prog) (w2.drew.alloc (.cells #[.int .i64 t.ans.stamp] 3)) 77 77 0 3 iI (.int .i64 0) 1 8 Tryz.underlying77 hiI hzI hsI hbI rfl (by decide) _ _ _ hrow1
    w2.heap.size [.int .i64 t.ans.stamp] rfl 3 (At.newAt rfl _ _) (by simp [Value.oneCell']) (by unfold maxLen; omega) (by omega) (by simp)
  have hT3 : At w3 l.b (t.cells l) 136 := ((HT2.out.drew).alloc _).grown hg M2.out
  have hA3 := ((HA2.out.drew).alloc (.cells #[.int .i64 t.ans.stamp] 3)).grown hg M1.out
  have HRun := (show Hid (∀ (o : Oper) (a : Act) (s x : Operand), _) from hrun)
  have HT3 := (show Hid (At w3 l.b _ _) from hT3)
  have HA3 := (show Hid (At w3 lc.b _ _) from hA3)
  have HOwn := (show Hid (w3.ownsRow 0 _ _ _ _ _) from hown)
  have HG := (show Hid (World.grownBy _ w3 _) from hg)
  have HGe := (show Hid (_ ∨ _) from hge)
  clear hrun hT3 hA3 hown hg hge hrow1
  clear ha haz hal hsl n1 n2 hcc hcz hcl
  refine wp_region_mix [19, 20, 24] (fun k => match k with | 0 => w2.drew | 1 => w2.drew.alloc (.cells #[.int .i64 t.ans.stamp] 3) | 2 => w3 | _ => w3.setCell ⟨lc.b, 6, none⟩ (.slice (some ⟨g, 0, none⟩) (((R.sp t.src).st false).length + 1) gcap)) 2 rfl (by kernel_rfl) (by kernel_rfl) (by kernel_rfl) (by decide) (by kernel_rfl) (by kernel_rfl) (by decide) rfl ?_
  intro W hW
  have ha : ∀ u o, (W u).cell? ⟨l.b, o, none⟩ = (t.cells l)[o]? := by
    intro u
    obtain ⟨k, hk, he⟩ := hW u
    rw [he]
    rcases (show k = 0 ∨ k = 1 ∨ k = 2 by omega) with rfl | rfl | rfl
    · exact HT2.out.drew.cell
    · exact (HT2.out.drew.alloc _).cell
    · exact HT3.out.cell
  have hcc : ∀ u o, (W u).cell? ⟨lc.b, o, none⟩ = (({ R.sp t.src with opn := upd (R.sp t.src).opn false false } : BSpot).cells lc)[o]? := by
    intro u
    obtain ⟨k, hk, he⟩ := hW u
    rw [he]
    rcases (show k = 0 ∨ k = 1 ∨ k = 2 by omega) with rfl | rfl | rfl
    · exact HA2.out.drew.cell
    · exact (HA2.out.drew.alloc _).cell
    · exact HA3.out.cell
  simp only [BThread.cells, BSpot.cells, hat, hsd, b2i_false] at ha hcc
  clear hW
  have hc3 := HA3.out.cell
  have hz3 := HA3.out.frozen
  simp only [BSpot.cells] at hc3
  repeat (refine mix_read rfl rfl ?_; go_big_quiet_step (fail); refine wpQuiet_nil ?_)
  refine mix_eff (v := .slice (some ⟨w2.heap.size, 0, none⟩) 1 1) rfl rfl rfl ?_ ?_
  · go_simp
    exact ⟨rfl, rfl⟩
  refine mix_eff rfl rfl rfl (HRun.out _ _ _ _ rfl rfl rfl rfl) ?_
  go_simp
  repeat (refine mix_read rfl rfl ?_; go_big_quiet_step (fail); refine wpQuiet_nil ?_)
  refine mix_eff (v := undef) rfl rfl rfl ?_ ?_
  · go_simp
    exact ⟨rfl, rfl⟩
  refine mix_nil ?_
  go_simp
  have hne : lc.b ≠ g := by
    have := HA3.out.ne_row HOwn.out (by decide)
    intro e; apply this; simp [Value.ownBlock, e]
  have hF4 : Fr (fun k => k = lc.b ∨ (lc.st false).ownBlock = some k) w2 (w3.setCell ⟨lc.b, 6, none⟩ (.slice (some ⟨g, 0, none⟩) (((R.sp t.src).st false).length + 1) gcap)) :=
    Fr.setIn (.inl rfl) ((((Fr.refl _ _).drew).alloc _).grown HG.out (fun k hk => .inl (.inr hk))) _ _
  have hE4 : Ext own (own.put g z (.st t.src false)) w2 := Ext.put' (Ext.refl _ _) (by
    rcases HGe.out with h | h
    · exact .inl ((HSt.out.st false).tg g h)
    · exact .inr (by simp at h; omega))
  have hF4' : FrT own z (fun t' => t' = .spot t.src ∨ t' = .st t.src false ∨ t' = .st t.src true) w2 (w3.setCell ⟨lc.b, 6, none⟩ (.slice (some ⟨g, 0, none⟩) (((R.sp t.src).st false).length + 1) gcap)) := FrT.of hF4 (by
    rintro k (rfl | hk)
    · rw [HSt.out.tg]; exact ⟨rfl, .inl rfl⟩
    · rw [(HSt.out.st false).tg k hk]; exact ⟨rfl, .inr (.inl rfl)⟩)
  have hB4 := HB2.out.spotSet (x' := { R.sp t.src with opn := upd (R.sp t.src).opn false false, st := upd (R.sp t.src).st false ((R.sp t.src).st false ++ [t.ans.stamp]) }) (st' := upd lc.st false (.slice (some ⟨g, 0, none⟩) (((R.sp t.src).st false).length + 1) gcap)) HLC.out hF4' hE4 ⟨HA3.out.set 6 _, by rw [hE4 _ HA2.out.lt]; exact HSt.out.tg, by
    intro s
    cases s
    · refine ⟨?_, by intro k hk; simp [upd, Value.ownBlock] at hk; subst hk; exact Own.put_same _ _ _ _⟩
      have := ownsRow_setOther HOwn.out (a := ⟨lc.b, 6, none⟩) (by simp [Value.ownBlock]; exact fun e => hne e.symm) (.slice (some ⟨g, 0, none⟩) (((R.sp t.src).st false).length + 1) gcap)
      simpa [upd, intCells] using this
    · refine (HSt.out.st true).fr hF4 hE4 ?_
      rintro k hk (rfl | hk')
      · rw [HSt.out.tg] at hk; simp at hk
      · rw [(HSt.out.st false).tg k hk'] at hk; simp at hk⟩
  have hT4 : At (w3.setCell ⟨lc.b, 6, none⟩ (.slice (some ⟨g, 0, none⟩) (((R.sp t.src).st false).length + 1) gcap)) l.b (t.cells l) 136 := HT3.out.setOther _ k2 _
  have hZ4 := FrZ.trans HZ2.out (Ext.refl _ _) hF4'.zone
  have hE4w : Ext own (own.put g z (.st t.src false)) w := fun k hk => hE4 k (Nat.lt_of_lt_of_le hk HZ2.out.size)
  generalize w3.setCell ⟨lc.b, 6, none⟩ (.slice (some ⟨g, 0, none⟩) (((R.sp t.src).st false).length + 1) gcap) = w4 at *
  have HB4 := (show Hid (BAt _ z w4 _ _) from hB4)
  have HT4 := (show Hid (At w4 l.b _ _) from hT4)
  have HZ4 := (show Hid (FrZ own z w w4) from hZ4)
  have HE4 := (show Hid (Ext own _ w) from hE4w)
  have ha4 := hT4.cell
  have hz4 := hT4.frozen
  simp only [BThread.cells] at ha4
  clear hB4 hT4 hZ4 hE4w hF4 hF4' hE4 ha hcc hc3 hz3
  go_wp2
  go_end0
  rw [hE.out, BSt.mapSp_set hc]
  have hB5 := HB4.out.thrCells HL.out Ht.out (t' := { t with at_ := 12 }) (w' := w4.setCell ⟨l.b, 6, none⟩ (.int .i64 12)) ((Fr.refl _ _).set1 _ _) (HT4.out.set 6 _) rfl rfl rfl rfl rfl rfl rfl
  simp only [List.set_set] at hB5
  refine ⟨rfl, _, _, hB5, HE4.out, FrZ.trans HZ4.out HE4.out (HB4.out.thrZone HL.out Ht.out ((Fr.refl _ _).set1 _ _)), rfl, rfl⟩
end
end Go.Proofs.YtfccelbmacjifaaGreat

namespace Go.Proofs.YtfccelbmacjifaaGreat
open Go.RowKit
section
variable {own : Own} {z : Nat} {w : World} {L : BLay} {R : BSt}
set_option maxHeartbeats 2000000 in
set_option maxRecDepth 100000 in
/-- Step 9 in a list. -/
theorem turns9L (h : BAt own z w L R) (hk : R.kind = 0) {i : Nat} {l : TLay} {t : BThread} (hl : L.ths[i]? = some l) (ht : R.ts[i]? = some t) (hat : t.at_ = 9) (hc : t.c < R.spots.length) :
    Calls Tryz.prog 118 #[.pointer (some ⟨L.s, 0, none⟩), .pointer (some ⟨l.b, 0, none⟩)] w fun e w' => e = .returned (.tuple #[]) ∧ BAt own z w' L (R.turns i t) ∧ FrZ own z w w' := by
  have hE : Hid (R.turns i t = (R.mapSp t.c fun x => { x with dead := true }).setTh i { t with ans := { t.ans with value := (R.sp t.c).value }, at_ := 10 }) := by
    show _ = _
    have hk1 : ¬ R.kind = 1 := by omega
    simp only [BSt.turns, hat, if_neg hk1]
  obtain ⟨ha, haz, hal, hs, hsz, hsl, n1, n2⟩ := h.view hl ht
  obtain ⟨sb, cap, hv⟩ := h.svShape (by omega)
  obtain ⟨lc, hlc, hcp, hcc, hcz, hcl, k1, k2, k3, k4, k5, hAc⟩ := h.viewSp hl ht hc hv
  have n3 := (h.thr i l t hl ht).at_.ne_row h.sp.row (by decide)
  rw [hv] at n3
  have n3' : sb ≠ l.b := by simpa [Value.ownBlock] using n3
  simp only [BThread.cells, BSt.head, hat, hk, hv] at ha hs
  simp only [BSpot.cells] at hcc
  have HB := (show Hid (BAt own z w L R) from h)
  have HL := (show Hid (L.ths[i]? = some l) from hl)
  have Ht := (show Hid (R.ts[i]? = some t) from ht)
  have HA := (show Hid (At w lc.b _ _) from hAc)
  have HT := (show Hid (At w l.b _ _) from (h.thr i l t hl ht).at_)
  have HLC := (show Hid (L.sps[t.c]? = some lc) from hlc)
  clear h hl ht hlc hv hAc n3
  go_enter Tryz.func118, Tryz.ntmps118
  go_wp2_with fail
  go_region
  go_wp2_with fail
  go_region
  go_wp2_with fail
  go_end0
  rw [hE.out, BSt.mapSp_set hc]
  refine ⟨rfl, HB.out.bothCells HL.out Ht.out HLC.out hc ?_ ?_ ?_ rfl rfl rfl rfl rfl rfl rfl rfl⟩
  · repeat (with_reducible first | refine Fr.setIn (.inl rfl) ?_ _ _ | refine Fr.setIn (.inr rfl) ?_ _ _ | refine Fr.alloc ?_ _ | refine Fr.drewN ?_ _ | refine Fr.drew ?_ | exact Fr.refl _ _)
  · exact (((HT.out.set 27 _).setOther _ k2 _).set 6 _).drew.drew
  · exact (((HA.out.setOther _ k1 _).set 10 _).setOther _ k1 _).drew.drew
end
end Go.Proofs.YtfccelbmacjifaaGreat

namespace Go.Proofs.YtfccelbmacjifaaGreat
open Go.RowKit
section
variable {own : Own} {z : Nat} {w : World} {L : BLay} {R : BSt}
set_option maxHeartbeats 2000000 in
set_option maxRecDepth 100000 in
/-- Step 10 in a list. -/
theorem turns10L (h : BAt own z w L R) {i : Nat} {l : TLay} {t : BThread} (hl : L.ths[i]? = some l) (ht : R.ts[i]? = some t) (hat : t.at_ = 10) (hsd : t.side = false) (hc : t.src < R.spots.length) :
    Calls Tryz.prog 118 #[.pointer (some ⟨L.s, 0, none⟩), .pointer (some ⟨l.b, 0, none⟩)] w fun e w' => e = .returned (.tuple #[]) ∧ BAt own z w' L (R.turns i t) ∧ FrZ own z w w' := by
  have hE : Hid (R.turns i t = (R.mapSp t.src fun x => { x with now := upd x.now false t.dst }).setTh i { t with at_ := 11 }) := by
    show _ = _
    simp only [BSt.turns, hat, hsd]
  obtain ⟨ha, haz, hal, hs, hsz, hsl, n1, n2⟩ := h.view hl ht
  obtain ⟨sb, cap, hv⟩ := h.svShape (by omega)
  obtain ⟨lc, hlc, hcp, hcc, hcz, hcl, k1, k2, k3, k4, k5, hAc⟩ := h.viewSp hl ht hc hv
  have n3 := (h.thr i l t hl ht).at_.ne_row h.sp.row (by decide)
  rw [hv] at n3
  have n3' : sb ≠ l.b := by simpa [Value.ownBlock] using n3
  simp only [BThread.cells, BSt.head, hat, hv, hsd, b2i_false] at ha hs
  simp only [BSpot.cells] at hcc
  have HB := (show Hid (BAt own z w L R) from h)
  have HL := (show Hid (L.ths[i]? = some l) from hl)
  have Ht := (show Hid (R.ts[i]? = some t) from ht)
  have HA := (show Hid (At w lc.b _ _) from hAc)
  have HT := (show Hid (At w l.b _ _) from (h.thr i l t hl ht).at_)
  have HLC := (show Hid (L.sps[t.src]? = some lc) from hlc)
  clear h hl ht hlc hv hAc n3
  go_enter Tryz.func118, Tryz.ntmps118
  go_wp2_with fail
  go_region
  go_wp2_with fail
  go_end0
  rw [hE.out, BSt.mapSp_set hc]
  refine ⟨rfl, HB.out.bothCells HL.out Ht.out HLC.out hc ?_ ?_ ?_ rfl rfl rfl rfl rfl rfl rfl rfl⟩
  · repeat (with_reducible first | refine Fr.setIn (.inl rfl) ?_ _ _ | refine Fr.setIn (.inr rfl) ?_ _ _ | refine Fr.alloc ?_ _ | refine Fr.drewN ?_ _ | refine Fr.drew ?_ | exact Fr.refl _ _)
  · exact ((HT.out.setOther _ k2 _).set 6 _).drew
  · exact ((HA.out.set 4 _).setOther _ k1 _).drew
end
end Go.Proofs.YtfccelbmacjifaaGreat

namespace Go.Proofs.YtfccelbmacjifaaGreat
open Go.RowKit
section
variable {own : Own} {z : Nat} {w : World} {L : BLay} {R : BSt}
set_option maxHeartbeats 1000000 in
set_option maxRecDepth 100000 in
theorem turns7 (h : BAt own z w L R) {i : Nat} {l : TLay} {t : BThread} (hl : L.ths[i]? = some l) (ht : R.ts[i]? = some t) (hat : t.at_ = 7)
    (hp : Calls Tryz.prog 145 #[.pointer (some ⟨L.s, 0, none⟩), .pointer (some ⟨l.b, 0, none⟩)] w fun e w' => e = .returned (.tuple #[]) ∧ Goes own z w L (R.prepares i t) w') :
    Calls Tryz.prog 118 #[.pointer (some ⟨L.s, 0, none⟩), .pointer (some ⟨l.b, 0, none⟩)] w fun e w' => e = .returned (.tuple #[]) ∧ Goes own z w L (R.turns i t) w' := by
  have hE : Hid (R.turns i t = R.prepares i t) := by show _ = _; simp only [BSt.turns, hat]
  obtain ⟨ha, haz, hal, hs, hsz, hsl, n1, n2⟩ := h.view hl ht
  simp only [BThread.cells, BSt.head, hat] at ha hs
  have HP := (show Hid (Calls _ _ _ _ _) from hp)
  clear h hl ht hp
  go_enter Tryz.func118, Tryz.ntmps118
  go_wp2_with fail
  refine Calls.mono HP.out ?_
  rintro e w' ⟨rfl, hG⟩
  rw [← hE.out] at hG
  have HG := (show Hid (Goes _ _ _ _ _ _) from hG)
  clear hG ha haz hal hs hsz hsl
  go_wp2
  go_end0
  exact ⟨rfl, HG.out⟩
set_option maxHeartbeats 1000000 in
set_option maxRecDepth 100000 in
theorem turns8 (h : BAt own z w L R) {i : Nat} {l : TLay} {t : BThread} (hl : L.ths[i]? = some l) (ht : R.ts[i]? = some t) (hat : t.at_ = 8)
    (hp : Calls Tryz.prog 146 #[.pointer (some ⟨L.s, 0, none⟩), .pointer (some ⟨l.b, 0, none⟩)] w fun e w' => e = .returned (.tuple #[]) ∧ Goes own z w L (R.takes i t) w') :
    Calls Tryz.prog 118 #[.pointer (some ⟨L.s, 0, none⟩), .pointer (some ⟨l.b, 0, none⟩)] w fun e w' => e = .returned (.tuple #[]) ∧ Goes own z w L (R.turns i t) w' := by
  have hE : Hid (R.turns i t = R.takes i t) := by show _ = _; simp only [BSt.turns, hat]
  obtain ⟨ha, haz, hal, hs, hsz, hsl, n1, n2⟩ := h.view hl ht
  simp only [BThread.cells, BSt.head, hat] at ha hs
  have HP := (show Hid (Calls _ _ _ _ _) from hp)
  clear h hl ht hp
  go_enter Tryz.func118, Tryz.ntmps118
  go_wp2_with fail
  refine Calls.mono HP.out ?_
  rintro e w' ⟨rfl, hG⟩
  rw [← hE.out] at hG
  have HG := (show Hid (Goes _ _ _ _ _ _) from hG)
  clear hG ha haz hal hs hsz hsl
  go_wp2
  go_end0
  exact ⟨rfl, HG.out⟩

/-- All that an update's thread must keep to, in a list. -/
structure UpdOk (R : BSt) (t : BThread) : Prop where
  x : t.x < R.spots.length
  xs : t.xs = false
  side : t.side = false
  c : t.c < R.spots.length
  src : t.src < R.spots.length
  want : ∀ p ∈ t.want, p < R.spots.length
  have_ : t.have_ ≤ t.want.length
  wlen : t.want.length ≤ 2
  new : ∀ p ∈ t.new, p < R.spots.length
  nlen : t.new.length ≤ 2
structure StOk (R : BSt) : Prop where
  kind : R.kind = 0
  some : 2 ≤ R.spots.length
  few : R.spots.length < 2 ^ 42
  room : RoomOk R
  clock : 0 ≤ R.clock ∧ R.clock ≤ 2 ^ 41
  log : R.log.length ≤ 2 ^ 41
  now : ∀ k, k < R.spots.length → (R.sp k).now false < R.spots.length
  st : ∀ k, ((R.sp k).st false).length ≤ 2 ^ 40
/-- Steps 6 to 12 of an update in a list. -/
theorem turnsL (h : BAt own z w L R) (hR : StOk R) {i : Nat} {l : TLay} {t : BThread} (hl : L.ths[i]? = some l) (ht : R.ts[i]? = some t) (hU : UpdOk R t) (h6 : 6 ≤ t.at_) (h12 : t.at_ ≤ 12) :
    Calls Tryz.prog 118 #[.pointer (some ⟨L.s, 0, none⟩), .pointer (some ⟨l.b, 0, none⟩)] w fun e w' => e = .returned (.tuple #[]) ∧ Goes own z w L (R.turns i t) w' := by
  have hs1 := hR.some
  rcases (show t.at_ = 6 ∨ t.at_ = 7 ∨ t.at_ = 8 ∨ t.at_ = 9 ∨ t.at_ = 10 ∨ t.at_ = 11 ∨ t.at_ = 12 by omega) with ha | ha | ha | ha | ha | ha | ha
  · exact (turns6L h hR.kind hl ht ha hU.xs hU.x hU.c hU.have_ hU.want hU.wlen).mono (fun e w' ⟨h1, h2⟩ => ⟨h1, Goes.here h2⟩)
  · refine turns7 h hl ht ha ?_
    by_cases hf : R.room.1 < (R.needs t).1 ∨ R.room.2 < (R.needs t).2
    · exact preparesL_full h hR.kind hl ht (by omega) (Nat.le_of_lt hR.few) hR.room hf
    · by_cases hk : t.okind = 1
      · exact preparesL_ins h hR.kind hl ht (by omega) hR.few hR.room hU.xs hU.x hk hf
      · exact preparesL_rem h hR.kind hl ht (by omega) hR.few hR.room hU.xs hU.x hU.c hk hf
  · refine turns8 h hl ht ha ?_
    by_cases hc : R.clock = R.limit
    · exact takesL_limit h hl ht hc hU.side hU.src hU.new hU.nlen
    · exact takes_go h hl ht hc hR.clock hR.log hU.new hU.nlen
  · exact (turns9L h hR.kind hl ht ha hU.c).mono (fun e w' ⟨h1, h2⟩ => ⟨h1, Goes.here h2⟩)
  · exact (turns10L h hl ht ha hU.side hU.src).mono (fun e w' ⟨h1, h2⟩ => ⟨h1, Goes.here h2⟩)
  · exact turns11L h hl ht ha hU.side hU.src (hR.st _)
  · exact (turns12L h hR.kind hl ht ha hU.have_ hU.want hU.wlen hU.c).mono (fun e w' ⟨h1, h2⟩ => ⟨h1, Goes.here h2⟩)
/-- Step 4 of an update in a list. -/
theorem walksL (h : BAt own z w L R) (hR : StOk R) {i : Nat} {l : TLay} {t : BThread} (hl : L.ths[i]? = some l) (ht : R.ts[i]? = some t) (hU : UpdOk R t) :
    Calls Tryz.prog 116 #[.pointer (some ⟨L.s, 0, none⟩), .pointer (some ⟨l.b, 0, none⟩)] w fun e w' => e = .returned (.tuple #[]) ∧ Goes own z w L (R.setTh i (R.walks t)) w' := by
  have hc : (R.sp t.x).now t.xs < R.spots.length := by rw [hU.xs]; exact hR.now _ hU.x
  cases hon : (if R.kind = 1 then !(R.sp ((R.sp t.x).now t.xs)).leaf else decide ((R.sp ((R.sp t.x).now t.xs)).key < t.okey))
  · exact walks_offL h hR.kind hl ht hU.x hc hU.xs hon
  · exact walks_onL h hR.kind hl ht hU.x hc hU.xs hon
end
end Go.Proofs.YtfccelbmacjifaaGreat

namespace Go.Proofs.YtfccelbmacjifaaGreat
open Go.RowKit
section
variable {own : Own} {z : Nat} {w : World} {L : BLay} {R : BSt}
/-- A new literal row for the links to be followed. -/
theorem BAt.goesTodo (h : BAt own z w L R) {w' : World} {i b : Nat} {l : TLay} {t t' : BThread} (hl : L.ths[i]? = some l) (ht : R.ts[i]? = some t) (hf : Fr (fun k => k = l.b) w w') (hb : w.heap.size ≤ b)
    (hA : At w' l.b (t'.cells { l with todo := .slice (some ⟨b, 0, none⟩) t'.todo.length t'.todo.length }) 136) (hW : At w' b (t'.todo.flatMap linkCells) 133) (hlen : t'.todo.length ≤ maxLen)
    (e1 : t'.ospans = t.ospans) (e2 : t'.want = t.want) (e3 : t'.new = t.new) (e5 : t'.found = t.found) (e6 : t'.ans.spans = t.ans.spans) (e7 : t'.last.spans = t.last.spans) :
    Goes own z w L (R.setTh i t') w' := by
  have hT := h.thr i l t hl ht
  have hE : Ext own (own.put b z (.tr i 3)) w := Ext.put hb _ _
  have hn : ∀ tag, tag ≠ Tag.thread i → ∀ k, own k = ⟨z, tag⟩ → ¬ k = l.b := by
    rintro tag hne k hk rfl; rw [hT.tg] at hk; simp at hk; exact hne hk.symm
  refine h.goesRows hl rfl (FrT.one hf hT.tg (.inl rfl)) hE (l' := { l with todo := .slice (some ⟨b, 0, none⟩) t'.todo.length t'.todo.length }) ?_
  refine ⟨hA, by rw [hE _ hT.at_.lt]; exact hT.tg, ?_, ?_, ?_, Row.lit _ _ _ hW (by rw [tab_len linkCells 2 (fun _ => rfl)]) hlen (Own.put_same _ _ _ _), ?_, ?_, ?_⟩
  · rw [e1]; exact hT.spans.fr hf hE (hn _ (by simp))
  · rw [e2]; exact hT.want.fr hf hE (hn _ (by simp))
  · rw [e3]; exact hT.new.fr hf hE (hn _ (by simp))
  · rw [e5]; exact hT.found.fr hf hE (hn _ (by simp))
  · rw [e6]; exact hT.alists.fr hf hE (hn _ (by simp))
  · rw [e7]; exact hT.llists.fr hf hE (hn _ (by simp))

set_option maxHeartbeats 1000000 in
set_option maxRecDepth 100000 in
theorem step1 (h : BAt own z w L R) {i : Nat} {l : TLay} {t : BThread} (hl : L.ths[i]? = some l) (ht : R.ts[i]? = some t) (hat : t.at_ = 1) :
    Calls Tryz.prog 95 #[.pointer (some ⟨L.s, 0, none⟩), .int .i64 i, .pointer (some ⟨l.b, 0, none⟩)] w fun e w' => e = .returned (.int .i64 (R.stepL i t).2) ∧ Goes own z w L (R.stepL i t).1 w' := by
  have hE : Hid (R.stepL i t = (R.setTh i { t with slot := -2, at_ := 2 }, 1)) := by show _ = _; simp only [BSt.stepL, hat]
  obtain ⟨ha, haz, hal, hs, hsz, hsl, n1, n2⟩ := h.view hl ht
  simp only [BThread.cells, BSt.head, hat] at ha hs
  have HB := (show Hid (BAt own z w L R) from h)
  have HL := (show Hid (L.ths[i]? = some l) from hl)
  have Ht := (show Hid (R.ts[i]? = some t) from ht)
  have HT := (show Hid (At w l.b _ _) from (h.thr i l t hl ht).at_)
  clear h hl ht
  go_enter Tryz.func95, Tryz.ntmps95
  go_wp2
  go_ret
  rw [hE.out]
  refine ⟨rfl, HB.out.goesTh HL.out Ht.out ?_ ((HT.out.set 7 _).set 6 _) rfl rfl rfl rfl rfl rfl rfl⟩
  repeat (with_reducible first | refine Fr.set1 ?_ _ _ | refine Fr.alloc ?_ _ | refine Fr.drewN ?_ _ | refine Fr.drew ?_ | exact Fr.refl _ _)
set_option maxHeartbeats 1000000 in
set_option maxRecDepth 100000 in
theorem step2 (h : BAt own z w L R) {i : Nat} {l : TLay} {t : BThread} (hl : L.ths[i]? = some l) (ht : R.ts[i]? = some t) (hat : t.at_ = 2) :
    Calls Tryz.prog 95 #[.pointer (some ⟨L.s, 0, none⟩), .int .i64 i, .pointer (some ⟨l.b, 0, none⟩)] w fun e w' => e = .returned (.int .i64 (R.stepL i t).2) ∧ Goes own z w L (R.stepL i t).1 w' := by
  have hE : Hid (R.stepL i t = (R.setTh i { t with t := R.clock, at_ := 3 }, 1)) := by show _ = _; simp only [BSt.stepL, hat]
  obtain ⟨ha, haz, hal, hs, hsz, hsl, n1, n2⟩ := h.view hl ht
  simp only [BThread.cells, BSt.head, hat] at ha hs
  have HB := (show Hid (BAt own z w L R) from h)
  have HL := (show Hid (L.ths[i]? = some l) from hl)
  have Ht := (show Hid (R.ts[i]? = some t) from ht)
  have HT := (show Hid (At w l.b _ _) from (h.thr i l t hl ht).at_)
  clear h hl ht
  go_enter Tryz.func95, Tryz.ntmps95
  go_wp2
  go_ret
  rw [hE.out]
  refine ⟨rfl, HB.out.goesTh HL.out Ht.out ?_ ((HT.out.set 8 _).set 6 _) rfl rfl rfl rfl rfl rfl rfl⟩
  repeat (with_reducible first | refine Fr.set1 ?_ _ _ | refine Fr.alloc ?_ _ | refine Fr.drewN ?_ _ | refine Fr.drew ?_ | exact Fr.refl _ _)
set_option maxHeartbeats 1000000 in
set_option maxRecDepth 100000 in
theorem step4u (h : BAt own z w L R) (hR : StOk R) {i : Nat} {l : TLay} {t : BThread} (hl : L.ths[i]? = some l) (ht : R.ts[i]? = some t) (hU : UpdOk R t) (hk : t.okind < 3) (hat : t.at_ = 4) :
    Calls Tryz.prog 95 #[.pointer (some ⟨L.s, 0, none⟩), .int .i64 i, .pointer (some ⟨l.b, 0, none⟩)] w fun e w' => e = .returned (.int .i64 (R.stepL i t).2) ∧ Goes own z w L (R.stepL i t).1 w' := by
  have hE : Hid (R.stepL i t = (R.setTh i (R.walks t), 1)) := by
    show _ = _
    have : ¬ 3 ≤ t.okind := by omega
    simp only [BSt.stepL, hat, if_neg this]
  obtain ⟨ha, haz, hal, hs, hsz, hsl, n1, n2⟩ := h.view hl ht
  simp only [BThread.cells, BSt.head, hat] at ha hs
  have HC := (show Hid (Calls _ _ _ _ _) from walksL h hR hl ht hU)
  clear h hl ht hU hR
  go_enter Tryz.func95, Tryz.ntmps95
  go_wp2_with fail
  refine Calls.mono HC.out ?_
  rintro e w' ⟨rfl, hG⟩
  have HG := (show Hid (Goes _ _ _ _ _ _) from hG)
  clear hG ha haz hal hs hsz hsl
  go_wp2
  go_ret
  rw [hE.out]
  exact ⟨rfl, HG.out⟩
set_option maxHeartbeats 1000000 in
set_option maxRecDepth 100000 in
theorem step6u (h : BAt own z w L R) (hR : StOk R) {i : Nat} {l : TLay} {t : BThread} (hl : L.ths[i]? = some l) (ht : R.ts[i]? = some t) (hU : UpdOk R t) (h6 : 6 ≤ t.at_) (h12 : t.at_ ≤ 12) :
    Calls Tryz.prog 95 #[.pointer (some ⟨L.s, 0, none⟩), .int .i64 i, .pointer (some ⟨l.b, 0, none⟩)] w fun e w' => e = .returned (.int .i64 (R.stepL i t).2) ∧ Goes own z w L (R.stepL i t).1 w' := by
  have hE : Hid (R.stepL i t = (R.turns i t, 1)) := by
    show _ = _
    rcases (show t.at_ = 6 ∨ t.at_ = 7 ∨ t.at_ = 8 ∨ t.at_ = 9 ∨ t.at_ = 10 ∨ t.at_ = 11 ∨ t.at_ = 12 by omega) with ha | ha | ha | ha | ha | ha | ha <;> simp only [BSt.stepL, ha]
  obtain ⟨ha, haz, hal, hs, hsz, hsl, n1, n2⟩ := h.view hl ht
  simp only [BThread.cells, BSt.head] at ha hs
  have HC := (show Hid (Calls _ _ _ _ _) from turnsL h hR hl ht hU h6 h12)
  have q1 : ((t.at_ : Int) == 1) = false := by simp; omega
  have q2 : ((t.at_ : Int) == 2) = false := by simp; omega
  have q3 : ((t.at_ : Int) == 3) = false := by simp; omega
  have q4 : ((t.at_ : Int) == 4) = false := by simp; omega
  have q5 : ((t.at_ : Int) == 5) = false := by simp; omega
  have q6 : ((t.at_ : Int) == 13) = false := by simp; omega
  clear h hl ht hU hR
  go_enter Tryz.func95, Tryz.ntmps95
  go_wp2_with fail
  refine Calls.mono HC.out ?_
  rintro e w' ⟨rfl, hG⟩
  have HG := (show Hid (Goes _ _ _ _ _ _) from hG)
  clear hG ha haz hal hs hsz hsl
  go_wp2
  go_ret
  rw [hE.out]
  exact ⟨rfl, HG.out⟩

set_option maxHeartbeats 1000000 in
set_option maxRecDepth 100000 in
theorem step3 (h : BAt own z w L R) {i : Nat} {l : TLay} {t : BThread} (hl : L.ths[i]? = some l) (ht : R.ts[i]? = some t) (hat : t.at_ = 3) :
    Calls Tryz.prog 95 #[.pointer (some ⟨L.s, 0, none⟩), .int .i64 i, .pointer (some ⟨l.b, 0, none⟩)] w fun e w' => e = .returned (.int .i64 (R.stepL i t).2) ∧ Goes own z w L (R.stepL i t).1 w' := by
  have hE : Hid (R.stepL i t = (R.setTh i { t with slot := t.t, hid := 0, hside := false, hkey := -1, todo := [(0, false)] }.home, 1)) := by show _ = _; simp only [BSt.stepL, hat]
  obtain ⟨ha, haz, hal, hs, hsz, hsl, n1, n2⟩ := h.view hl ht
  simp only [BThread.cells, BSt.head, hat] at ha hs
  have HB := (show Hid (BAt own z w L R) from h)
  have HL := (show Hid (L.ths[i]? = some l) from hl)
  have Ht := (show Hid (R.ts[i]? = some t) from ht)
  have HT := (show Hid (At w l.b _ _) from (h.thr i l t hl ht).at_)
  clear h hl ht
  go_enter Tryz.func95, Tryz.ntmps95
  go_wp2_with fail
  have hA1 := (((((((HT.out.set 7 (.int .i64 t.t)).set 6 (.int .i64 4)).set 20 (.int .i64 0)).set 21 (.int .i64 0)).set 22 (.int .i64 (-1))).set 23 (.slice (some ⟨w.heap.size, 0, none⟩) 1 1)).alloc (.cells #[.int .i64 0, .int .i64 0] 133))
  refine (home_calls (t := { t with slot := t.t, at_ := 4, hid := 0, hside := false, hkey := -1, todo := [(0, false)] }) (l := { l with todo := .slice (some ⟨w.heap.size, 0, none⟩) 1 1 }) hA1).mono ?_
  rintro e w1 ⟨rfl, hA2, hF2⟩
  have hN : At w1 w.heap.size [.int .i64 0, .int .i64 0] 133 := hF2.at (At.newAt (by simp) _ _) (by omega)
  have HA2 := (show Hid (At w1 l.b _ _) from hA2)
  have HN := (show Hid (At w1 _ _ _) from hN)
  have HF : Hid (Fr (fun k => k = l.b) w w1) := by
    refine Fr.trans ?_ hF2
    repeat (with_reducible first | refine Fr.set1 ?_ _ _ | refine Fr.alloc ?_ _ | refine Fr.drewN ?_ _ | refine Fr.drew ?_ | exact Fr.refl _ _)
  clear hA1 hA2 hF2 hN ha haz hs hsz
  go_wp2
  go_ret
  rw [hE.out]
  exact ⟨rfl, HB.out.goesTodo HL.out Ht.out HF.out (Nat.le_refl _) HA2.out HN.out (by simp [BThread.home, maxLen]) rfl rfl rfl rfl rfl rfl⟩

set_option maxHeartbeats 1000000 in
set_option maxRecDepth 100000 in
theorem step5 (h : BAt own z w L R) {i : Nat} {l : TLay} {t : BThread} (hl : L.ths[i]? = some l) (ht : R.ts[i]? = some t) (hat : t.at_ = 5) (hh : t.have_ < t.want.length) (hw : ∀ p ∈ t.want, p < R.spots.length) (hb : t.want.length ≤ 2) :
    Calls Tryz.prog 95 #[.pointer (some ⟨L.s, 0, none⟩), .int .i64 i, .pointer (some ⟨l.b, 0, none⟩)] w fun e w' => e = .returned (.int .i64 (R.stepL i t).2) ∧ Goes own z w L (R.stepL i t).1 w' := by
  have hp : t.want[t.have_]? = some t.want[t.have_] := List.getElem?_eq_getElem hh
  have hpl := hw _ (List.getElem_mem hh)
  have hE : Hid (R.stepL i t = R.locks i t) := by show _ = _; simp only [BSt.stepL, hat]
  generalize t.want[t.have_] = p at hp hpl
  have hE2 : Hid (R.locks i t = if 0 ≤ (R.sp p).owner then (R, 2) else ((R.mapSp p fun x => { x with owner := i }).setTh i { t with have_ := t.have_ + 1, at_ := if t.have_ + 1 = t.want.length then 6 else t.at_ }, 1)) := by
    show _ = _; simp only [BSt.locks, hp, Option.getD_some]
  obtain ⟨ha, haz, hal, hs, hsz, hsl, n1, n2⟩ := h.view hl ht
  obtain ⟨sb, cap, hv⟩ := h.svShape (by omega)
  obtain ⟨lk, hlk, hkp, hkc, hkz, hkl, m1, m2, m3, m4, m5, hAk⟩ := h.viewSp hl ht hpl hv
  obtain ⟨wb, wcap, hwv, _⟩ := ownsRow_shape (h.thr i l t hl ht).want.row (by omega)
  have how := (h.thr i l t hl ht).want.row
  rw [hwv] at how
  have hcw : w.cell? ⟨wb, t.have_, none⟩ = some (.int .i64 p) := ownsRow_cell how (by simp [natCells, hp])
  simp only [BThread.cells, BSt.head, hat, hv, hwv] at ha hs
  simp only [BSpot.cells] at hkc
  have HB := (show Hid (BAt own z w L R) from h)
  have HL := (show Hid (L.ths[i]? = some l) from hl)
  have Ht := (show Hid (R.ts[i]? = some t) from ht)
  have HT := (show Hid (At w l.b _ _) from (h.thr i l t hl ht).at_)
  have HA := (show Hid (At w lk.b _ _) from hAk)
  have HLK := (show Hid (L.sps[p]? = some lk) from hlk)
  clear h hl ht hv hwv how hp hAk hlk hw
  by_cases ho : 0 ≤ (R.sp p).owner
  · go_enter Tryz.func95, Tryz.ntmps95
    repeat (go_wp2_with fail; go_quiet (fail))
    go_wp2_with fail
    go_ret
    rw [hE.out, hE2.out, if_pos ho]
    exact ⟨rfl, Goes.here ⟨HB.out.drewN _, (Fr.refl _ _).drewN _⟩⟩
  · by_cases hl2 : t.have_ + 1 = t.want.length
    · have hI : (((t.have_ : Int) + 1) == (t.want.length : Int)) = true := by simp; omega
      go_enter Tryz.func95, Tryz.ntmps95
      repeat (go_wp2_with fail; go_quiet (fail))
      go_wp2_with fail
      go_ret
      rw [hE.out, hE2.out, if_neg (by omega), if_pos hl2, BSt.mapSp_set hpl]
      refine ⟨rfl, Goes.here (HB.out.bothCells (x' := { R.sp p with owner := i }) HL.out Ht.out HLK.out hpl ?_ ?_ ?_ rfl rfl rfl rfl rfl rfl rfl rfl)⟩
      · repeat (with_reducible first | refine Fr.setIn (.inl rfl) ?_ _ _ | refine Fr.setIn (.inr rfl) ?_ _ _ | refine Fr.alloc ?_ _ | refine Fr.drewN ?_ _ | refine Fr.drew ?_ | exact Fr.refl _ _)
      · exact (((((HT.out.drewN _).setOther ⟨lk.b, 11, none⟩ m2 _).set 15 _).drewN _).set 6 _)
      · exact (((((HA.out.drewN _).set 11 _).setOther ⟨l.b, 15, none⟩ m1 _).drewN _).setOther ⟨l.b, 6, none⟩ m1 _)
    · have hI : (((t.have_ : Int) + 1) == (t.want.length : Int)) = false := by simp; omega
      go_enter Tryz.func95, Tryz.ntmps95
      repeat (go_wp2_with fail; go_quiet (fail))
      go_wp2_with fail
      go_ret
      rw [hE.out, hE2.out, if_neg (by omega), if_neg hl2, BSt.mapSp_set hpl]
      refine ⟨rfl, Goes.here (HB.out.bothCells (x' := { R.sp p with owner := i }) HL.out Ht.out HLK.out hpl ?_ ?_ ?_ rfl rfl rfl rfl rfl rfl rfl rfl)⟩
      · repeat (with_reducible first | refine Fr.setIn (.inl rfl) ?_ _ _ | refine Fr.setIn (.inr rfl) ?_ _ _ | refine Fr.alloc ?_ _ | refine Fr.drewN ?_ _ | refine Fr.drew ?_ | exact Fr.refl _ _)
      · exact (((HT.out.drewN _).setOther ⟨lk.b, 11, none⟩ m2 _).set 15 _).drewN _
      · exact (((HA.out.drewN _).set 11 _).setOther ⟨l.b, 15, none⟩ m1 _).drewN _
end
end Go.Proofs.YtfccelbmacjifaaGreat

namespace Go.Proofs.YtfccelbmacjifaaGreat
open Go.RowKit
section
variable {own : Own} {z : Nat} {w : World} {L : BLay} {R : BSt}
set_option maxHeartbeats 1000000 in
set_option maxRecDepth 100000 in
/-- Step 13 of what is no Scan. -/
theorem leaves_calls (h : BAt own z w L R) {i : Nat} {l : TLay} {t : BThread} (hl : L.ths[i]? = some l) (ht : R.ts[i]? = some t) (hk : t.okind ≠ 4) :
    Calls Tryz.prog 117 #[.pointer (some ⟨L.s, 0, none⟩), .pointer (some ⟨l.b, 0, none⟩)] w fun e w' => e = .returned (.tuple #[]) ∧ Goes own z w L (R.setTh i t.leave) w' := by
  have hE : Hid (t.leave = { t with slot := -1, busy := false, has := true, last := t.ans }) := by show _ = _; unfold BThread.leave; simp only [if_neg hk]
  obtain ⟨ha, haz, hal, hs, hsz, hsl, n1, n2⟩ := h.view hl ht
  obtain ⟨ins, _, hrw, _⟩ := (h.thr i l t hl ht).alists.top
  obtain ⟨sa, sc, hsv⟩ := ownsRow_slice hrw.row
  have HE := (show Hid (l.aspans = .slice sa t.ans.spans.length sc) from hsv)
  simp only [BThread.cells, BSt.head, hsv] at ha hs
  have hd : (t.okind == 4) = false := by simp [hk]
  clear hsv hrw
  have HB := (show Hid (BAt own z w L R) from h)
  have HL := (show Hid (L.ths[i]? = some l) from hl)
  have HT := (show Hid (ThAt own z w i l t) from h.thr i l t hl ht)
  clear h hl ht
  go_enter Tryz.func117, Tryz.ntmps117
  go_wp2
  go_end0
  rw [hE.out]
  have hn : ∀ tag, tag ≠ Tag.thread i → ∀ k, own k = ⟨z, tag⟩ → ¬ k = l.b := by
    rintro tag hne k hk rfl; rw [HT.out.tg] at hk; simp at hk; exact hne hk.symm
  have hE0 := Ext.refl own w
  have hf : ∀ w', Fr (fun k => k = l.b) w w' → At w' l.b (({ t with slot := -1, busy := false, has := true, last := t.ans } : BThread).cells { l with lspans := l.aspans }) 136 → Goes own z w L (R.setTh i { t with slot := -1, busy := false, has := true, last := t.ans }) w' := by
    intro w' hf hA
    refine HB.out.goesRows HL.out rfl (FrT.one hf HT.out.tg (.inl rfl)) hE0 (l' := { l with lspans := l.aspans }) ?_
    exact ⟨hA, HT.out.tg, HT.out.spans.fr hf hE0 (hn _ (by simp)), HT.out.want.fr hf hE0 (hn _ (by simp)), HT.out.new.fr hf hE0 (hn _ (by simp)), HT.out.todo.fr hf hE0 (hn _ (by simp)), HT.out.found.fr hf hE0 (hn _ (by simp)), HT.out.alists.fr hf hE0 (hn _ (by simp)), HT.out.alists.fr hf hE0 (hn _ (by simp))⟩
  refine ⟨rfl, hf _ ?_ ?_⟩
  · repeat (with_reducible first | refine Fr.set1 ?_ _ _ | refine Fr.alloc ?_ _ | refine Fr.drewN ?_ _ | refine Fr.drew ?_ | exact Fr.refl _ _)
  · rw [← HE.out]
    exact (((((((HT.out.at_.set 7 _).set 4 _).set 5 _).set 30 _).set 31 _).set 32 _).set 33 _).set 34 _
set_option maxHeartbeats 1000000 in
set_option maxRecDepth 100000 in
theorem step13 (h : BAt own z w L R) {i : Nat} {l : TLay} {t : BThread} (hl : L.ths[i]? = some l) (ht : R.ts[i]? = some t) (hk : t.okind ≠ 4) (hat : t.at_ = 13) :
    Calls Tryz.prog 95 #[.pointer (some ⟨L.s, 0, none⟩), .int .i64 i, .pointer (some ⟨l.b, 0, none⟩)] w fun e w' => e = .returned (.int .i64 (R.stepL i t).2) ∧ Goes own z w L (R.stepL i t).1 w' := by
  have hE : Hid (R.stepL i t = (R.setTh i t.leave, 3)) := by show _ = _; simp only [BSt.stepL, hat]
  obtain ⟨ha, haz, hal, hs, hsz, hsl, n1, n2⟩ := h.view hl ht
  simp only [BThread.cells, BSt.head, hat] at ha hs
  have HC := (show Hid (Calls _ _ _ _ _) from leaves_calls h hl ht hk)
  clear h hl ht
  go_enter Tryz.func95, Tryz.ntmps95
  go_wp2_with fail
  refine Calls.mono HC.out ?_
  rintro e w' ⟨rfl, hG⟩
  have HG := (show Hid (Goes _ _ _ _ _ _) from hG)
  clear hG ha haz hal hs hsz hsl
  go_wp2
  go_ret
  rw [hE.out]
  exact ⟨rfl, HG.out⟩
/-- Any step of an update in a list. -/
theorem stepU (h : BAt own z w L R) (hR : StOk R) {i : Nat} {l : TLay} {t : BThread} (hl : L.ths[i]? = some l) (ht : R.ts[i]? = some t) (hU : UpdOk R t) (hk : t.okind < 3) (h1 : 1 ≤ t.at_) (h13 : t.at_ ≤ 13) (h5 : t.at_ = 5 → t.have_ < t.want.length) :
    Calls Tryz.prog 95 #[.pointer (some ⟨L.s, 0, none⟩), .int .i64 i, .pointer (some ⟨l.b, 0, none⟩)] w fun e w' => e = .returned (.int .i64 (R.stepL i t).2) ∧ Goes own z w L (R.stepL i t).1 w' := by
  rcases (show t.at_ = 1 ∨ t.at_ = 2 ∨ t.at_ = 3 ∨ t.at_ = 4 ∨ t.at_ = 5 ∨ (6 ≤ t.at_ ∧ t.at_ ≤ 12) ∨ t.at_ = 13 by omega) with ha | ha | ha | ha | ha | ha | ha
  · exact step1 h hl ht ha
  · exact step2 h hl ht ha
  · exact step3 h hl ht ha
  · exact step4u h hR hl ht hU hk ha
  · exact step5 h hl ht ha (h5 ha) hU.want hU.wlen
  · exact step6u h hR hl ht hU ha.1 ha.2
  · exact step13 h hl ht (by omega) ha
end
end Go.Proofs.YtfccelbmacjifaaGreat

namespace Go.Proofs.YtfccelbmacjifaaGreat
open Go.RowKit
section
variable {own : Own} {z : Nat} {w : World} {L : BLay} {R : BSt}
set_option maxHeartbeats 1000000 in
/-- Step of a thread that is none. -/
theorem BStep_none (h : BAt own z w L R) (i : Int) (hi : isIn i 0 (R.threads - 1) = false) (hth : -(2 ^ 62) ≤ R.threads ∧ R.threads ≤ 2 ^ 62) :
    Calls Tryz.prog 69 #[.pointer (some ⟨L.s, 0, none⟩), .int .i64 i] w fun e w' => e = .returned (.tuple #[.int .i64 0, .int .i64 2]) ∧ w' = w := by
  have hs := h.hd.cell
  simp only [BSt.head] at hs
  have hI : Hid (isIn i 0 (R.threads - 1) = false) := hi
  clear h hi
  go_enter Tryz.func69, Tryz.ntmps69
  go_wp2_with fail
  refine (between_calls _ _ _ _).mono ?_
  rintro e w ⟨rfl, rfl⟩
  rw [hI.out]
  go_wp2
  go_ret2
  exact ⟨rfl, rfl⟩
set_option maxHeartbeats 1000000 in
/-- Step of a thread that is idle. -/
theorem BStep_idle (h : BAt own z w L R) (i : Nat) (hi : (i : Int) < R.threads) (hl : R.threads = R.ts.length) (hth : R.threads ≤ 2 ^ 62) (hb : (R.th i).busy = false) :
    Calls Tryz.prog 69 #[.pointer (some ⟨L.s, 0, none⟩), .int .i64 i] w fun e w' => e = .returned (.tuple #[.int .i64 0, .int .i64 4]) ∧ w' = w := by
  have hs := h.hd.cell
  simp only [BSt.head] at hs
  have hil : i < R.ts.length := by omega
  obtain ⟨l, tb, cap, hl1, hv, hcp, ht, hT⟩ := h.thAt hil
  have ha := hT.at_.cell
  simp only [BThread.cells, hb] at ha
  rw [hv] at hs
  have hI : Hid (isIn i 0 ((R.ts.length : Int) - 1) = true) := isIn_true (by omega)
  clear h hT ht hl1 hv
  go_enter Tryz.func69, Tryz.ntmps69
  go_wp2_with fail
  refine (between_calls _ _ _ _).mono ?_
  rintro e w ⟨rfl, rfl⟩
  rw [hI.out]
  go_wp2
  go_ret2
  exact ⟨rfl, rfl⟩
set_option maxHeartbeats 1000000 in
/-- Step of a thread that is busy. -/
theorem BStep_busy (h : BAt own z w L R) (i : Nat) (hi : (i : Int) < R.threads) (hl : R.threads = R.ts.length) (hth : R.threads ≤ 2 ^ 62) (hb : (R.th i).busy = true) {R' : BSt} {n : Int}
    (hstep : ∀ l, L.ths[i]? = some l → R.ts[i]? = some (R.th i) → Calls Tryz.prog 95 #[.pointer (some ⟨L.s, 0, none⟩), .int .i64 i, .pointer (some ⟨l.b, 0, none⟩)] w fun e w' => e = .returned (.int .i64 n) ∧ Goes own z w L R' w') :
    Calls Tryz.prog 69 #[.pointer (some ⟨L.s, 0, none⟩), .int .i64 i] w fun e w' => e = .returned (.tuple #[.int .i64 n, .int .i64 0]) ∧ Goes own z w L R' w' := by
  have hs := h.hd.cell
  simp only [BSt.head] at hs
  have hil : i < R.ts.length := by omega
  obtain ⟨l, tb, cap, hl1, hv, hcp, ht, hT⟩ := h.thAt hil
  have ha := hT.at_.cell
  simp only [BThread.cells, hb] at ha
  rw [hv] at hs
  have hI : Hid (isIn i 0 ((R.ts.length : Int) - 1) = true) := isIn_true (by omega)
  have HC := (show Hid (Calls _ _ _ _ _) from hstep l hl1 ht)
  clear h hT ht hl1 hv hstep
  go_enter Tryz.func69, Tryz.ntmps69
  go_wp2_with fail
  refine (between_calls _ _ _ _).mono ?_
  rintro e w ⟨rfl, rfl⟩
  rw [hI.out]
  go_wp2_with fail
  refine Calls.mono HC.out ?_
  rintro e w' ⟨rfl, hG⟩
  have HG := (show Hid (Goes _ _ _ _ _ _) from hG)
  clear hG ha hs hcp
  go_wp2
  go_ret2
  exact ⟨rfl, HG.out⟩
end
end Go.Proofs.YtfccelbmacjifaaGreat

