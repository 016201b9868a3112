import Derived.Test.YtfccelbmacjifaaGreatP18
import Derived.Deep.Cut
import Derived.Test.YtfccelbmacjifaaGreatP17
import Derived.Test.YtfccelbmacjifaaGreatP13
namespace Go.Proofs.YtfccelbmacjifaaGreat
open Go.RowKit
set_option maxHeartbeats 400000 in
theorem isRead_calls (k : Int) (w : World) :
    Calls Tryz.prog 111 #[.int .i64 k] w fun e w' => e = .returned (.bool (k == 3 || k == 4)) ∧ w' = w := by
  cases h1 : (k == 3)
  · cases h2 : (k == 4)
    all_goals
      go_enter Tryz.func111, Tryz.ntmps111
      go_wp2
      go_ret
      exact ⟨rfl, rfl⟩
  · go_enter Tryz.func111, Tryz.ntmps111
    go_wp2
    go_ret
    exact ⟨rfl, rfl⟩
section
variable {own : Own} {z : Nat} {w : World} {L : ZLay} {P : PSt}

/-- An operation ends: its answer is the last one now. -/
theorem ZAt.wkLeave (h : ZAt own z w L P) {w' : World} {i : Nat} {l : WLay} {t : PThread} (hl : L.wks[i]? = some l) (ht : P.ts[i]? = some t) (hf : Fr (fun k => k = l.b) w w')
    (hA : At w' l.b (t.leave.cells i ⟨l.b, .slice none 0 0, .slice none 0 0, .slice none 0 0, .slice none 0 0, .slice none 0 0, l.aspans⟩) 114) : ZGoes own z w L (P.setT i t.leave) w' := by
  have hT := h.wk i l t hl ht
  have hF : FrT own z (fun t => t = .thread i ∨ ∃ k, t = .tr i k) w w' := FrT.one hf hT.tg (.inl rfl)
  have hn : ∀ tag, tag ≠ Tag.thread i → ∀ k, own k = ⟨z, tag⟩ → ¬ k = l.b := by
    rintro tag hne k hk rfl; rw [hT.tg] at hk; simp at hk; exact hne hk.symm
  have hE := Ext.refl own w
  refine ⟨own, { L with wks := L.wks.set i ⟨l.b, .slice none 0 0, .slice none 0 0, .slice none 0 0, .slice none 0 0, .slice none 0 0, l.aspans⟩ }, h.wkSet hl rfl hF hE ⟨hA, hT.tg, Row.nil _ _ _ _ _ _, Row.nil _ _ _ _ _ _, Row.nil _ _ _ _ _ _, Row.nil _ _ _ _ _ _, ListsAt.none _ _ _, ?_⟩, hE, hF.zone, rfl, rfl, ?_⟩
  · exact hT.alists.fr hf hE (hn _ (by simp))
  · show (L.wks.set i _).map (·.b) = _
    rw [List.map_set]
    exact setL_same (by simp [hl])

set_option maxHeartbeats 2000000 in
set_option maxRecDepth 100000 in
theorem leave_calls (h : ZAt own z w L P) {i : Nat} {l : WLay} {t : PThread} (hl : L.wks[i]? = some l) (ht : P.ts[i]? = some t) :
    Calls Tryz.prog 110 #[.pointer (some ⟨l.b, 0, none⟩)] w fun e w' => e = .returned (.tuple #[]) ∧ ZGoes own z w L (P.setT i t.leave) w' := by
  have HT := (show Hid (At w l.b _ _) from (h.wk i l t hl ht).at_)
  obtain ⟨ins, _, hrow, _⟩ := ((h.wk i l t hl ht).alists).top
  obtain ⟨aa, acap, hav, _⟩ := hrow.shape
  clear hrow
  have ha := HT.out.cell
  have haz := HT.out.frozen
  simp only [PThread.cells, hav] at ha
  have H := (show Hid (ZAt own z w L P) from h)
  have HL := (show Hid (L.wks[i]? = some l) from hl)
  have Ht := (show Hid (P.ts[i]? = some t) from ht)
  have HAV := (show Hid (l.aspans = _) from hav)
  clear h hl ht hav
  go_enter Tryz.func110, Tryz.ntmps110
  go_upto_region 4 with fail
  have hA1 := (((((((HT.out.set 1 (.int .i64 0)).set 24 (.int .i64 t.work.ans.err)).set 25 (.bool t.work.ans.did)).set 26 (.int .i64 t.work.ans.value)).set 27 (.int .i64 t.work.ans.stamp)).set 28 (.slice aa t.work.ans.spans.length acap)).set 23 (.bool true)).set 2 (.bool false)
  have hF1 : Fr (fun k => k = l.b) w ((((((((w.setCell ⟨l.b, 1, none⟩ (.int .i64 0)).setCell ⟨l.b, 24, none⟩ (.int .i64 t.work.ans.err)).setCell ⟨l.b, 25, none⟩ (.bool t.work.ans.did)).setCell ⟨l.b, 26, none⟩ (.int .i64 t.work.ans.value)).setCell ⟨l.b, 27, none⟩ (.int .i64 t.work.ans.stamp)).setCell ⟨l.b, 28, none⟩ (.slice aa t.work.ans.spans.length acap)).setCell ⟨l.b, 23, none⟩ (.bool true)).setCell ⟨l.b, 2, none⟩ (.bool false)) := by
    repeat (with_reducible first | refine Fr.set1 ?_ _ _ | exact Fr.refl _ _)
  have HA1 := (show Hid (At _ l.b _ _) from hA1)
  have HF1 := (show Hid (Fr _ w _) from hF1)
  clear hA1 hF1 ha haz
  generalize (((((((w.setCell ⟨l.b, 1, none⟩ (.int .i64 0)).setCell ⟨l.b, 24, none⟩ (.int .i64 t.work.ans.err)).setCell ⟨l.b, 25, none⟩ (.bool t.work.ans.did)).setCell ⟨l.b, 26, none⟩ (.int .i64 t.work.ans.value)).setCell ⟨l.b, 27, none⟩ (.int .i64 t.work.ans.stamp)).setCell ⟨l.b, 28, none⟩ (.slice aa t.work.ans.spans.length acap)).setCell ⟨l.b, 23, none⟩ (.bool true)).setCell ⟨l.b, 2, none⟩ (.bool false) = w1 at *
  have hwork : ∀ w : World, (sizeOf 112).run Tryz.prog w = .ok 20 w := fun _ => by kernel_rfl
  go_wp2_with (refine wpList_storeAgg w1 rfl _ _ 112 rfl l.b 3 [.int .i64 0, .int .i64 0, .int .i64 0, .slice none 0 0, .int .i64 0, .int .i64 0, .int .i64 0, .int .i64 0, .int .i64 0, .int .i64 0, .slice none 0 0, .int .i64 0, .int .i64 0, .slice none 0 0, .slice none 0 0, .int .i64 0, .bool false, .int .i64 0, .int .i64 0, .slice none 0 0] rfl rfl hwork _ _ HA1.out (by simp [PThread.cells]) (by simp [Value.oneCell']) ?_)
  go_end0
  refine ⟨rfl, H.out.wkLeave HL.out Ht.out (Fr.setCells (S := fun k => k = l.b) rfl _ _ _ HF1.out) ?_⟩
  rw [HAV.out]
  have hX := At.setCells [.int .i64 0, .int .i64 0, .int .i64 0, .slice none 0 0, .int .i64 0, .int .i64 0, .int .i64 0, .int .i64 0, .int .i64 0, .int .i64 0, .slice none 0 0, .int .i64 0, .int .i64 0, .slice none 0 0, .slice none 0 0, .int .i64 0, .bool false, .int .i64 0, .int .i64 0, .slice none 0 0] 3 w1 _ HA1.out
  simp only [setAll, PThread.cells, List.set_cons_zero, List.set_cons_succ] at hX
  simp only [PThread.cells, PThread.leave, PWork.zero, b2i_false, Int.natCast_zero]
  exact hX
end
end Go.Proofs.YtfccelbmacjifaaGreat

namespace Go.Proofs.YtfccelbmacjifaaGreat
open Go.RowKit
section
variable {own : Own} {z : Nat} {w : World} {L : ZLay} {P : PSt}
/-- Any step of an update, from the walk on. -/
theorem update_calls (h : ZAt own z w L P) {i : Nat} {l : WLay} {t : PThread} (hl : L.wks[i]? = some l) (ht : P.ts[i]? = some t) (hU : PUpd P t.work) (hn : 4 ≤ t.work.next ∧ t.work.next ≤ 12) :
    Calls Tryz.prog 113 #[.pointer (some ⟨L.s, 0, none⟩), .pointer (some ⟨l.b, 0, none⟩)] w fun e w' => e = .returned (.int .i64 (P.update i t.work).2) ∧ ZGoes own z w L (P.update i t.work).1 w' := by
  by_cases h1 : t.work.next = 10
  · exact update_10 h hl ht h1
  · by_cases h2 : t.work.next = 11
    · exact update_11 h hl ht h2
    · exact update_low h hl ht hU (by omega)

set_option maxHeartbeats 4000000 in
set_option maxRecDepth 100000 in
theorem makeStep_calls (h : ZAt own z w L P) {i : Nat} {l : WLay} {t : PThread} (hl : L.wks[i]? = some l) (ht : P.ts[i]? = some t) (hn : 1 ≤ t.work.next ∧ t.work.next ≤ 13) (rd : Bool) (hkd : (t.work.kind == 3 || t.work.kind == 4) = rd)
    (hU : 4 ≤ t.work.next ∧ t.work.next ≤ 12 → Calls Tryz.prog (if rd then 112 else 113) #[.pointer (some ⟨L.s, 0, none⟩), .pointer (some ⟨l.b, 0, none⟩)] w fun e w' => e = .returned (.int .i64 (P.step i t).2) ∧ ZGoes own z w L (P.step i t).1 w') :
    Calls Tryz.prog 94 #[.pointer (some ⟨L.s, 0, none⟩), .pointer (some ⟨l.b, 0, none⟩)] w fun e w' => e = .returned (.int .i64 (P.step i t).2) ∧ ZGoes own z w L (P.step i t).1 w' := by
  obtain ⟨ha, haz, hal, hs, hsz, hsl, n1, n2⟩ := h.view hl ht
  simp only [PThread.cells, PSt.head] at ha hs
  have HT := (show Hid (At w l.b _ _) from (h.wk i l t hl ht).at_)
  have H := (show Hid (ZAt own z w L P) from h)
  have HL := (show Hid (L.wks[i]? = some l) from hl)
  have Ht := (show Hid (P.ts[i]? = some t) from ht)
  have HU := (show Hid (_ → Calls _ _ _ _ _) from hU)
  clear h hl ht hU hsz
  by_cases c1 : t.work.next = 1
  · have hE : Hid (P.step i t = (P.setT i { t with slot := 1, work := { t.work with next := 2 } }, 1)) := by show _ = _; simp only [PSt.step, c1]
    rw [c1] at ha
    clear c1 hn hkd hs
    go_enter Tryz.func94, Tryz.ntmps94
    go_wp2
    go_ret
    rw [hE.out]
    exact ⟨rfl, ZGoes.here (H.out.wkCells HL.out Ht.out (t' := { t with slot := 1, work := { t.work with next := 2 } }) (((Fr.refl _ _).set1 _ _).set1 _ _) ((HT.out.set 1 _).set 7 _) rfl rfl rfl rfl rfl rfl)⟩
  · by_cases c2 : t.work.next = 2
    · have hE : Hid (P.step i t = (P.setT i { t with work := { t.work with time := P.clock, next := 3 } }, 1)) := by show _ = _; simp only [PSt.step, c2]
      rw [c2] at ha
      clear c1 c2 hn hkd
      go_enter Tryz.func94, Tryz.ntmps94
      go_wp2
      go_ret
      rw [hE.out]
      exact ⟨rfl, ZGoes.here (H.out.wkCells HL.out Ht.out (t' := { t with work := { t.work with time := P.clock, next := 3 } }) (((Fr.refl _ _).set1 _ _).set1 _ _) ((HT.out.set 8 _).set 7 _) rfl rfl rfl rfl rfl rfl)⟩
    · by_cases c3 : t.work.next = 3
      · have hE : Hid (P.step i t = (P.setT i { t with slot := 2, work := t.work.home }, 1)) := by show _ = _; simp only [PSt.step, c3]
        rw [c3] at ha
        clear c1 c2 c3 hn hkd hs
        go_enter Tryz.func94, Tryz.ntmps94
        go_wp2_with fail
        have R := H.out.wkCells HL.out Ht.out (t' := { t with slot := 2 }) ((Fr.refl _ _).set1 _ _) (HT.out.set 1 (.int .i64 2)) rfl rfl rfl rfl rfl rfl
        have Ht1 := (show Hid (_ = some _) from setT_get P Ht.out { t with slot := 2 })
        refine (beginWalk_calls R.1 HL.out Ht1.out).mono ?_
        rintro e w1 ⟨rfl, hZ, hF⟩
        have H1 := (show Hid (ZAt own z w1 L _) from hZ)
        have HF1 := (show Hid (FrZ own z w w1) from FrZ.trans R.2 (Ext.refl _ _) hF)
        clear hZ hF R ha haz
        go_wp2
        go_ret
        rw [hE.out]
        have H1' := H1.out
        rw [setT_setT] at H1'
        exact ⟨rfl, ZGoes.here ⟨H1', HF1.out⟩⟩
      · by_cases c13 : t.work.next = 13
        · have hE : Hid (P.step i t = (P.setT i t.leave, 3)) := by show _ = _; simp only [PSt.step, c13]
          rw [c13] at ha
          clear c1 c2 c3 c13 hn hkd hs
          go_enter Tryz.func94, Tryz.ntmps94
          go_wp2_with fail
          refine (leave_calls H.out HL.out Ht.out).mono ?_
          rintro e w1 ⟨rfl, hG⟩
          have HG := (show Hid (ZGoes _ _ _ _ _ _) from hG)
          clear hG ha haz
          go_wp2
          go_ret
          rw [hE.out]
          exact ⟨rfl, HG.out⟩
        · have q1 : ((t.work.next : Int) == 1) = false := by simp; omega
          have q2 : ((t.work.next : Int) == 2) = false := by simp; omega
          have q3 : ((t.work.next : Int) == 3) = false := by simp; omega
          have q4 : ((t.work.next : Int) == 13) = false := by simp; omega
          have hr : Hid ((t.work.kind == 3 || t.work.kind == 4) = rd) := hkd
          have hn' : Hid (4 ≤ t.work.next ∧ t.work.next ≤ 12) := by show _ ∧ _; omega
          clear c1 c2 c3 c13 hn hkd hs
          go_enter Tryz.func94, Tryz.ntmps94
          go_wp2_with fail
          refine (isRead_calls t.work.kind _).mono ?_
          rintro e w1 ⟨rfl, rfl⟩
          rw [hr.out]
          cases rd
          all_goals
            go_wp2_with fail
            refine Calls.mono (HU.out hn'.out) ?_
            rintro e w1 ⟨rfl, hG⟩
            have HG := (show Hid (ZGoes _ _ _ _ _ _) from hG)
            clear hG ha haz
            go_wp2
            go_ret
            exact ⟨rfl, HG.out⟩
theorem step_update {i : Nat} {t : PThread} (hkd : t.work.kind = 1 ∨ t.work.kind = 2) (hn : 4 ≤ t.work.next ∧ t.work.next ≤ 12) : P.step i t = P.update i t.work := by
  have hk : ¬ (t.work.kind = 3 ∨ t.work.kind = 4) := by omega
  unfold PSt.step
  split
  · next h => omega
  · next h => omega
  · next h => omega
  · next h => omega
  · rw [if_neg hk]

set_option maxHeartbeats 400000 in
theorem ZhasThread_calls (h : ZAt own z w L P) (i : Int) :
    Calls Tryz.prog 90 #[.pointer (some ⟨L.s, 0, none⟩), .int .i64 i] w fun e w' => e = .returned (.bool (isIn i 0 (P.ts.length - 1))) ∧ w' = w := by
  obtain ⟨ta, tcap, htv, _⟩ := h.th.shape
  have hc := h.hd.cell
  have hs := h.few
  simp only [PSt.head, htv] at hc
  clear h
  by_cases h1 : 0 ≤ i
  · by_cases h2 : i < P.ts.length
    · go_enter Tryz.func90, Tryz.ntmps90
      go_wp2
      go_ret
      exact ⟨ret_bool (isIn_true (by omega)).symm, rfl⟩
    · go_enter Tryz.func90, Tryz.ntmps90
      go_wp2
      go_ret
      exact ⟨ret_bool (isIn_false (by omega)).symm, rfl⟩
  · go_enter Tryz.func90, Tryz.ntmps90
    go_wp2
    go_ret
    exact ⟨ret_bool (isIn_false (by omega)).symm, rfl⟩

/-- A thread's worker is found. -/
theorem ZAt.wkPtr (h : ZAt own z w L P) {i : Nat} {t : PThread} (ht : P.ts[i]? = some t) : ∃ l tb cap, L.wks[i]? = some l ∧ L.tv = .slice (some ⟨tb, 0, none⟩) P.ts.length cap ∧ w.cell? ⟨tb, i, none⟩ = some (.pointer (some ⟨l.b, 0, none⟩)) := by
  have hi := (List.getElem?_eq_some_iff.1 ht).1
  have hb := List.getElem?_eq_getElem (show i < L.wks.length by rw [h.wlen]; exact hi)
  obtain ⟨sb, cap, hv, _⟩ := ownsRow_shape h.th.row (by omega)
  have ho := h.th.row
  rw [hv] at ho
  exact ⟨_, sb, cap, hb, hv, ownsRow_cell ho (by unfold wptrs; rw [List.getElem?_map, hb]; rfl)⟩

set_option maxHeartbeats 1000000 in
theorem ZStep_idle (h : ZAt own z w L P) {i : Nat} {t : PThread} (ht : P.ts[i]? = some t) (hb : t.busy = false) :
    Calls Tryz.prog 68 #[.pointer (some ⟨L.s, 0, none⟩), .int .i64 i] w fun e w' => e = .returned (.tuple #[.int .i64 0, .int .i64 4]) ∧ w' = w := by
  have hlt := (List.getElem?_eq_some_iff.1 ht).1
  have hI : Hid (isIn i 0 (P.ts.length - 1) = true) := isIn_true (by omega)
  obtain ⟨l, tb, cap, hl, htv, hptr⟩ := h.wkPtr ht
  obtain ⟨ha, haz, hal, hs, hsz, hsl, n1, n2⟩ := h.view hl ht
  have hf := h.few
  simp only [PThread.cells, PSt.head, hb, htv] at ha hs
  have H := (show Hid (ZAt own z w L P) from h)
  clear h ht hl
  go_enter Tryz.func68, Tryz.ntmps68
  go_wp2_with fail
  refine (ZhasThread_calls H.out i).mono ?_
  rintro e w' ⟨rfl, rfl⟩
  rw [hI.out]
  go_wp2
  go_ret2
  exact ⟨rfl, rfl⟩

set_option maxHeartbeats 1000000 in
theorem ZStep_gen (h : ZAt own z w L P) {i : Nat} {t : PThread} (ht : P.ts[i]? = some t) (hb : t.busy = true) (hn : 1 ≤ t.work.next ∧ t.work.next ≤ 13) (rd : Bool) (hkd : (t.work.kind == 3 || t.work.kind == 4) = rd)
    (hU : ∀ l, L.wks[i]? = some l → 4 ≤ t.work.next ∧ t.work.next ≤ 12 → Calls Tryz.prog (if rd then 112 else 113) #[.pointer (some ⟨L.s, 0, none⟩), .pointer (some ⟨l.b, 0, none⟩)] w fun e w' => e = .returned (.int .i64 (P.step i t).2) ∧ ZGoes own z w L (P.step i t).1 w') :
    Calls Tryz.prog 68 #[.pointer (some ⟨L.s, 0, none⟩), .int .i64 i] w fun e w' => e = .returned (.tuple #[.int .i64 (P.step i t).2, .int .i64 0]) ∧ ZGoes own z w L (P.step i t).1 w' := by
  have hlt := (List.getElem?_eq_some_iff.1 ht).1
  have hI : Hid (isIn i 0 (P.ts.length - 1) = true) := isIn_true (by omega)
  obtain ⟨l, tb, cap, hl, htv, hptr⟩ := h.wkPtr ht
  obtain ⟨ha, haz, hal, hs, hsz, hsl, n1, n2⟩ := h.view hl ht
  have hf := h.few
  simp only [PThread.cells, PSt.head, hb, htv] at ha hs
  have HC := (show Hid (Calls _ _ _ _ _) from makeStep_calls h hl ht hn rd hkd (hU l hl))
  have H := (show Hid (ZAt own z w L P) from h)
  clear h ht hl hU hn hkd
  go_enter Tryz.func68, Tryz.ntmps68
  go_wp2_with fail
  refine (ZhasThread_calls H.out i).mono ?_
  rintro e w' ⟨rfl, rfl⟩
  rw [hI.out]
  go_wp2_with fail
  refine Calls.mono HC.out ?_
  rintro e w1 ⟨rfl, hG⟩
  have HG := (show Hid (ZGoes _ _ _ _ _ _) from hG)
  clear hG ha haz hs hsz hptr
  go_wp2
  go_ret2
  exact ⟨rfl, HG.out⟩
theorem ZStep_busy (h : ZAt own z w L P) {i : Nat} {t : PThread} (ht : P.ts[i]? = some t) (hb : t.busy = true) (hU : PUpd P t.work) (hn : 1 ≤ t.work.next ∧ t.work.next ≤ 13) (hkd : t.work.kind = 1 ∨ t.work.kind = 2) :
    Calls Tryz.prog 68 #[.pointer (some ⟨L.s, 0, none⟩), .int .i64 i] w fun e w' => e = .returned (.tuple #[.int .i64 (P.step i t).2, .int .i64 0]) ∧ ZGoes own z w L (P.step i t).1 w' :=
  ZStep_gen h ht hb hn false (by rcases hkd with h | h <;> rw [h] <;> rfl) (fun l hl hn' => by
    rw [step_update hkd hn']
    exact update_calls h hl ht hU hn')
end
end Go.Proofs.YtfccelbmacjifaaGreat

set_option linter.unusedSimpArgs false
namespace Go.Proofs.YtfccelbmacjifaaGreat
open Go.RowKit
section
variable {own : Own} {z : Nat} {w : World} {L : ZLay} {P : PSt}
def PSt.setS (P : PSt) (r : PSweep) : PSt := { P with sweep := r }
/-- Only what the sweep notes has turned. -/
theorem ZAt.sweepSet (h : ZAt own z w L P) {w' : World} {own' : Own} {r : PSweep} {v : Value} (hf : Fr (fun k => k = L.s) w w') (hE : Ext own own' w) (hA : At w' L.s ((P.setS r).head { L with retired := v }) 105)
    (hr : Row own' z w' .gone 3 1 v r.retired.length (natCells r.retired)) : ZAt own' z w' { L with retired := v } (P.setS r) ∧ FrZ own z w w' := by
  have hn : ∀ tag, tag ≠ Tag.store → ∀ k, own k = ⟨z, tag⟩ → ¬ k = L.s := by
    rintro tag hne k hk rfl; rw [h.hown] at hk; simp at hk; exact hne hk.symm
  have ht := at_fr h.hd h.hown hf hE
  refine ⟨⟨hA, ?_, MAt.same h.mem hf (hn _ (by simp) _ h.mo) (hn _ (by simp) _ h.no) (hn _ (by simp) _ h.eo), ?_, ?_, ?_, h.th.fr hf hE (hn _ (by simp)), h.wlen,
    fun i l t hl ht => (h.wk i l t hl ht).fr hf hE (hn _ (by simp)) (fun k j => hn _ (by simp) k) (hn _ (by simp)), hr, h.few⟩, ?_⟩
  · rw [hE _ h.hd.lt]; exact h.hown
  · rw [hE _ h.mem.hd.lt]; exact h.mo
  · rw [hE _ (ownsRow_lt0 h.mem.nodes)]; exact h.no
  · rw [hE _ (ownsRow_lt0 h.mem.ents)]; exact h.eo
  · refine Fr.mono hf ?_
    rintro k _ rfl
    rw [h.hown]
theorem ZAt.sweepCells (h : ZAt own z w L P) {w' : World} {r : PSweep} (hf : Fr (fun k => k = L.s) w w') (hA : At w' L.s ((P.setS r).head L) 105) (hr : r.retired = P.sweep.retired) : ZAt own z w' L (P.setS r) ∧ FrZ own z w w' := by
  have hn : ∀ k, own k = ⟨z, .gone⟩ → ¬ k = L.s := by
    rintro k hk rfl; rw [h.hown] at hk; simp at hk
  have := h.sweepSet (v := L.retired) hf (Ext.refl _ _) hA (by rw [hr]; exact h.ret.fr hf (Ext.refl _ _) hn)
  exact this
set_option maxHeartbeats 1000000 in
set_option maxRecDepth 100000 in
theorem beginSweep_calls (h : ZAt own z w L P) :
    Calls Tryz.prog 119 #[.pointer (some ⟨L.s, 0, none⟩)] w fun e w' => e = .returned (.tuple #[]) ∧ ZGoes own z w L (P.setS { P.sweep with clock := P.clock, retired := retiredFrom P.mem.ns 0 }) w' := by
  have hs := h.hd.cell
  have hz := h.hd.frozen
  simp only [PSt.head] at hs
  have hA1 := h.hd.set 6 (.int .i64 P.clock)
  have H1 := (show Hid _ from h.sweepCells (r := { P.sweep with clock := P.clock }) ((Fr.refl _ _).set1 6 (.int .i64 P.clock)) hA1 rfl)
  clear h hA1
  go_enter Tryz.func119, Tryz.ntmps119
  go_wp2_with fail
  obtain ⟨w1, hw1⟩ : ∃ w1, w1 = w.setCell ⟨L.s, 6, none⟩ (.int .i64 P.clock) := ⟨_, rfl⟩
  rw [← hw1] at H1 ⊢
  clear hw1 hs hz
  refine (RetiredNodes_calls H1.out.1.mem).mono ?_
  rintro e w2 ⟨a, n, c, rfl, hO⟩
  have HO := (show Hid (OwnNats w1 w2 (.slice a n c) (retiredFrom P.mem.ns 0)) from hO)
  have hs := (H1.out.1.calm hO.fr).hd.cell
  have hz := (H1.out.1.calm hO.fr).hd.frozen
  simp only [PSt.head, PSt.setS] at hs
  clear hO
  go_wp2
  go_end0
  refine ⟨rfl, ?_⟩
  have h2 := H1.out.1.calm HO.out.fr
  obtain ⟨own', hE, ho⟩ : ∃ own' : Own, Ext own own' w1 ∧ ∀ k, (Value.slice a n c).ownBlock = some k → own' k = ⟨z, .gone⟩ := by
    refine ⟨fun k => if (Value.slice a n c).ownBlock = some k then ⟨z, .gone⟩ else own k, ?_, fun k hk => by simp [hk]⟩
    intro k hk
    have : ¬ (Value.slice a n c).ownBlock = some k := fun hh => by have := HO.out.new k hh; omega
    simp [this]
  have hrow : Row own' z w2 .gone 3 1 (.slice a n c) (retiredFrom P.mem.ns 0).length (natCells (retiredFrom P.mem.ns 0)) := ⟨HO.out.row, ho⟩
  have h1 := H1.out.1.fr HO.out.fr hE (fun _ _ h => h)
  have hne : ∀ k, own' k = ⟨z, .gone⟩ → ¬ k = L.s := by
    rintro k hk rfl; rw [h1.hown] at hk; simp at hk
  have h3 := h1.sweepSet (r := { P.sweep with clock := P.clock, retired := retiredFrom P.mem.ns 0 }) (v := .slice a n c) ((Fr.refl _ _).set1 7 (.slice a n c)) (Ext.refl _ _) (h1.hd.set 7 (.slice a n c)) (hrow.fr ((Fr.refl _ _).set1 7 (.slice a n c)) (Ext.refl _ _) hne)
  have hFz : FrZ own z w w2 := Fr.trans H1.out.2 (Fr.mono HO.out.fr (fun _ _ h => h.elim))
  have hEw : Ext own own' w := fun k hk => hE k (Nat.lt_of_lt_of_le hk H1.out.2.size)
  exact ⟨own', { L with retired := .slice a n c }, h3.1, hEw, FrZ.trans hFz hEw h3.2, rfl, rfl, rfl⟩
set_option maxHeartbeats 1000000 in
set_option maxRecDepth 100000 in
theorem lookAt_calls (h : ZAt own z w L P) {i : Nat} {l : WLay} {t : PThread} (hl : L.wks[i]? = some l) (ht : P.ts[i]? = some t) :
    Calls Tryz.prog 120 #[.pointer (some ⟨L.s, 5, none⟩), .pointer (some ⟨l.b, 0, none⟩)] w fun e w' => e = .returned (.tuple #[]) ∧ ZAt own z w' L (P.setS (P.sweep.lookAt t)) ∧ FrZ own z w w' := by
  obtain ⟨ha, haz, hal, hs, hsz, hsl, n1, n2⟩ := h.view hl ht
  simp only [PThread.cells, PSt.head] at ha hs
  have H := (show Hid (∀ n, ZAt own z (w.drewN n) L P) from fun n => h.calm ((Fr.refl _ _).drewN n))
  have H0 := (show Hid (ZAt own z w L P) from h)
  have HFd := (show Hid (∀ n w', FrZ own z (w.drewN n) w' → FrZ own z w w') from fun n w' hf => Fr.trans ((Fr.refl _ _).drewN n) hf)
  clear h hl ht
  by_cases h2 : t.slot = 2
  · have h2' : (t.slot != 2) = false := by simp [h2]
    cases hh : P.sweep.hasTime
    · have HE : Hid (P.sweep.lookAt t = { P.sweep with time := t.work.time, hasTime := true }) := by
        show _ = _; unfold PSweep.lookAt; rw [if_pos h2, hh]; rfl
      rw [hh] at hs
      have HR := (show Hid (∀ n, _) from fun n => (H.out n).sweepCells (r := { P.sweep with time := t.work.time, hasTime := true }) (((Fr.refl _ _).set1 9 (.int .i64 t.work.time)).set1 8 (.bool true)) (((H.out n).hd.set 9 (.int .i64 t.work.time)).set 8 (.bool true)) rfl)
      clear h2
      go_enter Tryz.func120, Tryz.ntmps120
      go_wp2_with fail
      go_quiet (fail)
      go_wp2
      go_end0
      rw [HE.out]
      exact ⟨rfl, (HR.out _).1, HFd.out _ _ (HR.out _).2⟩
    · rw [hh] at hs
      by_cases hlt : t.work.time < P.sweep.time
      · have HE : Hid (P.sweep.lookAt t = { P.sweep with time := t.work.time, hasTime := true }) := by
          show _ = _; unfold PSweep.lookAt; rw [if_pos h2, hh, decide_eq_true hlt]; rfl
        have HR := (show Hid (∀ n, _) from fun n => (H.out n).sweepCells (r := { P.sweep with time := t.work.time, hasTime := true }) (((Fr.refl _ _).set1 9 (.int .i64 t.work.time)).set1 8 (.bool true)) (((H.out n).hd.set 9 (.int .i64 t.work.time)).set 8 (.bool true)) rfl)
        clear h2
        go_enter Tryz.func120, Tryz.ntmps120
        go_wp2_with fail
        go_quiet (fail)
        go_wp2
        go_end0
        rw [HE.out]
        exact ⟨rfl, (HR.out _).1, HFd.out _ _ (HR.out _).2⟩
      · have HE : Hid (P.sweep.lookAt t = { P.sweep with hasTime := true }) := by
          show _ = _; unfold PSweep.lookAt; rw [if_pos h2, hh, decide_eq_false hlt]; rfl
        have HR := (show Hid (∀ n, _) from fun n => (H.out n).sweepCells (r := { P.sweep with hasTime := true }) ((Fr.refl _ _).set1 8 (.bool true)) ((H.out n).hd.set 8 (.bool true)) rfl)
        clear h2
        go_enter Tryz.func120, Tryz.ntmps120
        go_wp2_with fail
        go_quiet (fail)
        go_wp2
        go_end0
        rw [HE.out]
        exact ⟨rfl, (HR.out _).1, HFd.out _ _ (HR.out _).2⟩
  · have HE : Hid (P.sweep.lookAt t = P.sweep) := by
      show _ = _; unfold PSweep.lookAt; rw [if_neg h2]
    have h2' : (t.slot != 2) = true := by simp [h2]
    go_enter Tryz.func120, Tryz.ntmps120
    go_wp2
    refine bodyPost_ret (results_none rfl _ _ _) rfl ?_
    rw [HE.out]
    exact ⟨rfl, H0.out, Fr.refl _ _⟩
def PSweep.till (r : PSweep) : Int := if r.hasTime && decide (r.time < r.clock) then r.time else r.clock
set_option maxHeartbeats 1000000 in
set_option maxRecDepth 100000 in
theorem dropEntries_calls (h : ZAt own z w L P) :
    Calls Tryz.prog 121 #[.pointer (some ⟨L.s, 0, none⟩)] w fun e w' => e = .returned (.tuple #[]) ∧ ZAt own z w' L (P.setM (P.mem.drop P.sweep.till)) ∧ FrZ own z w w' := by
  have hs := h.hd.cell
  simp only [PSt.head] at hs
  have H := (show Hid (ZAt own z w L P) from h)
  clear h
  cases hh : P.sweep.hasTime
  · have HE : Hid (P.sweep.till = P.sweep.clock) := by show _ = _; unfold PSweep.till; rw [hh]; rfl
    rw [hh] at hs
    go_enter Tryz.func121, Tryz.ntmps121
    go_wp2_with fail
    refine (Drop_calls H.out.mem _).mono ?_
    rintro e w1 ⟨rfl, hM, hF⟩
    have HR := (show Hid _ from H.out.memSet hM hF)
    clear hM hF hs
    go_wp2
    go_end0
    rw [HE.out]
    exact ⟨rfl, HR.out⟩
  · rw [hh] at hs
    by_cases hlt : P.sweep.time < P.sweep.clock
    · have HE : Hid (P.sweep.till = P.sweep.time) := by show _ = _; unfold PSweep.till; rw [hh, decide_eq_true hlt]; rfl
      go_enter Tryz.func121, Tryz.ntmps121
      go_wp2_with fail
      refine (Drop_calls H.out.mem _).mono ?_
      rintro e w1 ⟨rfl, hM, hF⟩
      have HR := (show Hid _ from H.out.memSet hM hF)
      clear hM hF hs
      go_wp2
      go_end0
      rw [HE.out]
      exact ⟨rfl, HR.out⟩
    · have HE : Hid (P.sweep.till = P.sweep.clock) := by show _ = _; unfold PSweep.till; rw [hh, decide_eq_false hlt]; rfl
      go_enter Tryz.func121, Tryz.ntmps121
      go_wp2_with fail
      refine (Drop_calls H.out.mem _).mono ?_
      rintro e w1 ⟨rfl, hM, hF⟩
      have HR := (show Hid _ from H.out.memSet hM hF)
      clear hM hF hs
      go_wp2
      go_end0
      rw [HE.out]
      exact ⟨rfl, HR.out⟩
theorem frees_app (ht : Bool) (t : Int) (n : Nat) : ∀ (l : List Nat) (M : PMem), M.freesIf ht t (l ++ [n]) = (if !ht || decide (((M.freesIf ht t l).node n).retiredAt < t) then (M.freesIf ht t l).free n else M.freesIf ht t l)
  | [], M => rfl
  | k :: r, M => by rw [List.cons_append, PMem.freesIf, PMem.freesIf, frees_app ht t n r]
theorem frees_take {L : List Nat} {k n : Nat} (h : L[k]? = some n) (ht : Bool) (t : Int) (M : PMem) : M.freesIf ht t (L.take (k + 1)) = (if !ht || decide (((M.freesIf ht t (L.take k)).node n).retiredAt < t) then (M.freesIf ht t (L.take k)).free n else M.freesIf ht t (L.take k)) := by
  rw [List.take_add_one, h, Option.toList_some, frees_app]
theorem nat_get {L : List Nat} {k n : Nat} (h : L[k]? = some n) : (natCells L)[k]? = some (.int .i64 n) := by simp [natCells, h]
set_option maxHeartbeats 4000000 in
set_option maxRecDepth 100000 in
theorem freeNodes_calls (h : ZAt own z w L P) (hfew : P.sweep.retired.length ≤ 100) :
    Calls Tryz.prog 122 #[.pointer (some ⟨L.s, 0, none⟩)] w fun e w' => e = .returned (.tuple #[]) ∧ ZAt own z w' L (P.setM (P.mem.freesIf P.sweep.hasTime P.sweep.time P.sweep.retired)) ∧ FrZ own z w w' := by
  have hs := h.hd.cell
  obtain ⟨a, c, hv⟩ : ∃ a c, L.retired = .slice a P.sweep.retired.length c := by
    rcases h.ret.row.2 with ⟨h1, h2⟩ | ⟨g, cap, _, h1, _⟩
    · exact ⟨none, 0, by rw [h1, h2]⟩
    · exact ⟨_, cap, h1⟩
  simp only [PSt.head, hv] at hs
  have H := (show Hid (ZAt own z w L P) from h)
  have HV := (show Hid (L.retired = .slice a P.sweep.retired.length c) from hv)
  clear h hv
  go_enter Tryz.func122, Tryz.ntmps122
  go_wp2
  clear hs
  go_loopw [10] (fun i wr => ∃ k : Nat, k ≤ P.sweep.retired.length ∧ i = .int .i64 k ∧ ∃ M, Hid (M = P.mem.freesIf P.sweep.hasTime P.sweep.time (P.sweep.retired.take k)) ∧ Hid (ZAt own z wr L (P.setM M) ∧ FrZ own z w wr)) (fun i _ => P.sweep.retired.length - (intOf i).toNat)
  case atStart => exact ⟨0, Nat.zero_le _, rfl, P.mem, rfl, H.out, Fr.refl _ _⟩
  case round =>
    clear H
    obtain ⟨k, hk, rfl, M, HM, HZ⟩ := hrel
    have hs := HZ.out.1.hd.cell
    simp only [PSt.head, PSt.setM, HV.out] at hs
    by_cases hlt : k < P.sweep.retired.length
    · have hx : Hid (P.sweep.retired[k]? = some P.sweep.retired[k]) := List.getElem?_eq_getElem hlt
      generalize P.sweep.retired[k] = n at hx
      have HT := (show Hid _ from frees_take hx.out P.sweep.hasTime P.sweep.time P.mem)
      rw [← HM.out] at HT
      obtain ⟨g, cap, hg, _⟩ := ownsRow_shape HZ.out.1.ret.row (by show P.sweep.retired.length ≠ 0; omega)
      have hgc : wr.cell? ⟨g, k, none⟩ = some (.int .i64 n) := by
        have ho := HZ.out.1.ret.row
        rw [hg] at ho
        exact ownsRow_cell ho (nat_get hx.out)
      have hga : a = some ⟨g, 0, none⟩ := by
        have := HV.out
        rw [hg] at this
        simp at this
        exact this.1.symm
      subst hga
      clear hx hg
      cases hh : P.sweep.hasTime
      · rw [hh] at hs
        have HT' : Hid (P.mem.freesIf P.sweep.hasTime P.sweep.time (P.sweep.retired.take (k + 1)) = M.free n) := by
          show _ = _; rw [HT.out, hh]; rfl
        go_wp2_with fail
        go_quiet (fail)
        go_wp2_with fail
        refine (Free_calls (HZ.out.1.calm ((Fr.refl _ _).drewN _)).mem _).mono ?_
        rintro e w1 ⟨rfl, hM1, hF1⟩
        have HR := (show Hid _ from (HZ.out.1.calm ((Fr.refl _ _).drewN _)).memSet hM1 hF1)
        have HFR := (show Hid (FrZ own z w w1) from Fr.trans (Fr.trans HZ.out.2 ((Fr.refl _ _).drewN _)) HR.out.2)
        clear hM1 hF1 hs hgc
        go_wp2
        go_roundw
        case rel => exact ⟨k + 1, by omega, by go_num, M.free n, by show _ = _; rw [← hh]; exact HT'.out.symm, HR.out.1, HFR.out⟩
        case measure => simp [intOf]; omega
      · rw [hh] at hs
        have HB := (show Hid (At wr L.s _ 105) from HZ.out.1.hd)
        have hcmp : ∃ b, decide ((M.node n).retiredAt < P.sweep.time) = b := ⟨_, rfl⟩
        obtain ⟨b, hcmp⟩ := hcmp
        have HT' : Hid (P.mem.freesIf P.sweep.hasTime P.sweep.time (P.sweep.retired.take (k + 1)) = if b then M.free n else M) := by
          show _ = _; rw [HT.out, hh]; simp only [Bool.not_true, Bool.false_or, hcmp]
        go_wp2_with fail
        refine wp_region_calm [12] 0 rfl (by kernel_rfl) (by kernel_rfl) (by kernel_rfl) (by decide) (by kernel_rfl) (by decide) ?_
        intro U W hU hW
        have hsu : ∀ u o, (W u).cell? ⟨L.s, o, none⟩ = (({ kind := P.kind, limit := P.limit, clock := P.clock, mem := M, ts := P.ts, sweep := P.sweep } : PSt).head L)[o]? := fun u => ((hW u).at HB.out (fun h => h)).cell
        simp only [PSt.head, HV.out, hh] at hsu
        have hfd := field_retiredAt (M.node n)
        clear hW hs
        repeat (refine mix_read rfl rfl ?_; go_big_quiet_step (fail); refine wpQuiet_nil ?_)
        refine mix_effG (nodeVal (M.node n)) rfl rfl (by rfl) ?_ ?_
        · intro w' hw'
          go_simp
          refine (Node_calls (HZ.out.1.calm hw').mem n).mono ?_
          rintro e w'' ⟨rfl, hF⟩
          exact ⟨rfl, hw'.trans hF⟩
        go_simp
        repeat (refine mix_read rfl rfl ?_; go_big_quiet_step (fail); refine wpQuiet_nil ?_)
        refine mix_nil ?_
        intro w2 hw2
        have HZ2 := (show Hid (ZAt own z w2 L (P.setM M)) from HZ.out.1.calm hw2)
        have HF2 := (show Hid (FrZ own z w w2) from Fr.trans HZ.out.2 (Fr.mono hw2 (fun _ _ h => h.elim)))
        have hs := HZ2.out.hd.cell
        simp only [PSt.head, PSt.setM, HV.out] at hs
        clear hw2 hsu hfd hgc HB
        cases b
        · go_wp2
          go_roundw
          case rel => exact ⟨k + 1, by omega, by go_num, M, by show _ = _; rw [← hh]; exact HT'.out.symm, HZ2.out, HF2.out⟩
          case measure => simp [intOf]; omega
        · go_wp2_with fail
          refine (Free_calls HZ2.out.mem _).mono ?_
          rintro e w3 ⟨rfl, hM1, hF1⟩
          have HR := (show Hid _ from HZ2.out.memSet hM1 hF1)
          have HFR := (show Hid (FrZ own z w w3) from Fr.trans HF2.out HR.out.2)
          clear hM1 hF1 hs
          go_wp2
          go_roundw
          case rel => exact ⟨k + 1, by omega, by go_num, M.free n, by show _ = _; rw [← hh]; exact HT'.out.symm, HR.out.1, HFR.out⟩
          case measure => simp [intOf]; omega
    · have hk' : k = P.sweep.retired.length := by omega
      have HM' : Hid (M = P.mem.freesIf P.sweep.hasTime P.sweep.time P.sweep.retired) := by
        show _ = _; rw [HM.out, hk', List.take_length]
      clear hk'
      go_wp2
      go_end0
      refine ⟨rfl, ?_⟩
      rw [← HM'.out]
      exact HZ.out
end
end Go.Proofs.YtfccelbmacjifaaGreat

set_option linter.unusedSimpArgs false
namespace Go.Proofs.YtfccelbmacjifaaGreat
open Go.RowKit
section
variable {own : Own} {z : Nat} {w : World} {L : ZLay} {P : PSt}
set_option maxHeartbeats 4000000 in
set_option maxRecDepth 100000 in
theorem linkToFollow_calls (h : ZAt own z w L P) {i : Nat} {l : WLay} {t : PThread} (hl : L.wks[i]? = some l) (ht : P.ts[i]? = some t) :
    Calls Tryz.prog 126 #[.pointer (some ⟨L.s, 0, none⟩), .pointer (some ⟨l.b, 0, none⟩)] w fun e w' => e = .returned (lnk (P.linkNext t.work).1 (P.linkNext t.work).2) ∧ Fr (fun _ => False) w w' := by
  have hF0 : Fr (fun _ => False) w (w.alloc (.cells #[.int .i64 0, .int .i64 0] 109)) := (Fr.refl _ _).alloc _
  have HA := (show Hid (At _ w.heap.size _ _) from At.new w [.int .i64 0, .int .i64 0] 109)
  have H := (show Hid (ZAt own z _ L P) from h.calm hF0)
  have HF0 := (show Hid (Fr _ _ _) from hF0)
  have HL := (show Hid (L.wks[i]? = some l) from hl)
  have Ht := (show Hid (P.ts[i]? = some t) from ht)
  have HLK := (show Hid (Row own z w (.tr i 2) 109 2 l.links t.work.links.length (t.work.links.flatMap linkCells)) from (h.wk i l t hl ht).links)
  clear h hl ht hF0
  obtain ⟨ha, haz, hal, hs, hsz, hsl, n1, n2⟩ := H.out.view HL.out Ht.out
  have HT := (show Hid (At _ l.b _ _) from (H.out.wk i l t HL.out Ht.out).at_)
  simp only [PThread.cells] at ha
  clear haz hsz
  obtain ⟨la, lc, hlv, _⟩ := HLK.out.shape
  rw [hlv] at ha
  cases hlk : t.work.links with
  | nil =>
    have HN : Hid (P.linkNext t.work = (t.work.stand, P.mem.sideFor t.work.stand t.work.key)) := by show _ = _; unfold PSt.linkNext; rw [hlk]
    rw [hlk] at ha
    simp only [List.length_nil] at ha
    clear hs
    go_enter Tryz.func126, Tryz.ntmps126
    go_wp2_with fail
    generalize w.alloc _ = w1 at HA H HT HF0 ha hsl hal ⊢
    refine wp_region_calmstore 14 15 (fun w' => ∃ w2, Fr (fun _ => False) w1 w2 ∧ w' = (w2.setCell ⟨w.heap.size, 0, none⟩ (.int .i64 t.work.stand)).setCell ⟨w.heap.size, 1, none⟩ (.int .i64 (b2i (P.mem.sideFor t.work.stand t.work.key)))) (by kernel_rfl) (by kernel_rfl) (by kernel_rfl) (by decide) (by kernel_rfl) (by kernel_rfl) (by decide) ?_
    intro U W hU hW
    have hau : ∀ u o, (W u).cell? ⟨L.s, o, none⟩ = (P.head L)[o]? := fun u => ((H.out).calm (hW u)).hd.cell
    have hlu : ∀ u o, (W u).cell? ⟨l.b, o, none⟩ = (t.cells i l)[o]? := fun u => (((H.out).calm (hW u)).wk i l t HL.out Ht.out).at_.cell
    simp only [PSt.head] at hau
    simp only [PThread.cells] at hlu
    clear hW
    repeat (refine mix_read rfl rfl ?_; go_big_quiet_step (fail); refine wpQuiet_nil ?_)
    refine mix_effC (lnk t.work.stand (P.mem.sideFor t.work.stand t.work.key)) rfl rfl rfl ?_ ?_
    · intro w' hw'
      have hw0 := hw'.1 (by decide)
      go_simp
      refine (LinkFor_calls (H.out.calm hw0).mem t.work.stand t.work.key).mono ?_
      rintro e w'' ⟨rfl, hF⟩
      exact ⟨rfl, hw0.trans hF⟩
    unfold lnk
    go_simp
    refine mix_effC undef rfl rfl rfl ?_ ?_
    · intro w' hw'
      have hw0 := hw'.1 (by decide)
      have hA := hw0.at HA.out (fun h => h)
      have hc := hA.cell
      have hf := hA.frozen
      clear hau hlu
      go_simp
      exact ⟨rfl, w', hw0, rfl⟩
    go_simp
    refine mix_nil ?_
    intro w5 w4 hF4 hw5
    have hA4 := hF4.at HA.out (fun h => h)
    have f0 := ((hA4.set 0 (.int .i64 t.work.stand)).set 1 (.int .i64 (b2i (P.mem.sideFor t.work.stand t.work.key)))).cell
    subst hw5
    clear hau hlu
    go_wp2
    rw [HN.out]
    refine bodyPost_ret (v := lnk t.work.stand (P.mem.sideFor t.work.stand t.work.key)) (by simp [results, Tryz.results126, go_sem, lnk, f0]) rfl ⟨rfl, ?_⟩
    exact Fr.setNew (Nat.le_refl _) (Fr.setNew (Nat.le_refl _) (HF0.out.trans hF4) _ _) _ _
  | cons p r =>
    have HN : Hid (P.linkNext t.work = p) := by show _ = _; unfold PSt.linkNext; rw [hlk]
    have hrow := (H.out.wk i l t HL.out Ht.out).links.row
    rw [hlv, hlk] at hrow
    rw [hlk] at ha
    simp only [List.length_cons] at ha hrow
    obtain ⟨g, cap, hg, _⟩ := ownsRow_shape hrow (by simp)
    obtain ⟨rfl, rfl⟩ : la = some ⟨g, 0, none⟩ ∧ lc = cap := by simpa using hg
    have c0 := ownsRow_cell hrow (o := 0) (u := .int .i64 p.1) rfl
    have c1 := ownsRow_cell hrow (o := 1) (u := .int .i64 (b2i p.2)) rfl
    have hac := HA.out.cell
    have haz := HA.out.frozen
    clear hs hg hrow
    go_enter Tryz.func126, Tryz.ntmps126
    go_wp2
    rw [HN.out]
    refine bodyPost_ret (v := lnk p.1 p.2) (by simp [results, Tryz.results126, go_sem, lnk]) rfl ⟨rfl, ?_⟩
    repeat (with_reducible first | refine Fr.setNew (Nat.le_refl _) ?_ _ _ | refine Fr.alloc ?_ _ | exact Fr.refl _ _)
/-- An answer, as a value. -/
def ansV (a : BAns) (sp : Value) : Value := .agg #[.int .i64 a.err, .bool a.did, .int .i64 a.value, .int .i64 a.stamp, sp]
theorem ZAt.wkAns2 (h : ZAt own z w L P) {w' : World} {i : Nat} {l : WLay} {t t' : PThread} {sp : Value} (hl : L.wks[i]? = some l) (ht : P.ts[i]? = some t) (hf : Fr (fun k => k = l.b) w w') (hA : At w' l.b (t'.cells i { l with aspans := sp }) 114)
    (e1 : t'.work.spans = t.work.spans) (e2 : t'.work.made = t.work.made) (e3 : t'.work.links = t.work.links) (e4 : t'.work.noted = t.work.noted) (e6 : ListsAt own z w sp t'.work.ans.spans) (e7 : t'.last.spans = t.last.spans) :
    ZGoes own z w L (P.setT i t') w' := by
  have hT := h.wk i l t hl ht
  have hF : FrT own z (fun t => t = .thread i ∨ ∃ k, t = .tr i k) w w' := FrT.one hf hT.tg (.inl rfl)
  have hn : ∀ tag, tag ≠ Tag.thread i → ∀ k, own k = ⟨z, tag⟩ → ¬ k = l.b := by
    rintro tag hne k hk rfl; rw [hT.tg] at hk; simp at hk; exact hne hk.symm
  have hE := Ext.refl own w
  refine ⟨own, { L with wks := L.wks.set i { l with aspans := sp } }, h.wkSet hl rfl hF hE ⟨hA, hT.tg, ?_, ?_, ?_, ?_, ?_, ?_⟩, hE, hF.zone, rfl, rfl, ?_⟩
  · rw [e1]; exact hT.spans.fr hf hE (hn _ (by simp))
  · rw [e2]; exact hT.made.fr hf hE (hn _ (by simp))
  · rw [e3]; exact hT.links.fr hf hE (hn _ (by simp))
  · rw [e4]; exact hT.noted.fr hf hE (hn _ (by simp))
  · exact e6.fr hf hE (hn _ (by simp))
  · rw [e7]; exact hT.llists.fr hf hE (hn _ (by simp))
  · show (L.wks.set i { l with aspans := sp }).map (·.b) = _
    rw [List.map_set]
    exact setL_same (by simp [hl])
set_option maxHeartbeats 2000000 in
set_option maxRecDepth 100000 in
theorem conclude_calls (h : ZAt own z w L P) {i : Nat} {l : WLay} {t : PThread} (hl : L.wks[i]? = some l) (ht : P.ts[i]? = some t) (a : BAns) (sa : Option Addr) (sn sc : Nat) (hsp : ListsAt own z w (.slice sa sn sc) a.spans) :
    Calls Tryz.prog 154 #[.pointer (some ⟨l.b, 0, none⟩), ansV a (.slice sa sn sc)] w fun e w' => e = .returned (.tuple #[]) ∧ ZGoes own z w L (P.setT i { t with work := t.work.conclude a }) w' := by
  have hF0 : Fr (fun _ => False) w (w.alloc (.cells #[.int .i64 a.err, .bool a.did, .int .i64 a.value, .int .i64 a.stamp, .slice sa sn sc] 93)) := (Fr.refl _ _).alloc _
  have HA := (show Hid (At _ w.heap.size _ _) from At.new w [.int .i64 a.err, .bool a.did, .int .i64 a.value, .int .i64 a.stamp, .slice sa sn sc] 93)
  have H := (show Hid (ZAt own z _ L P) from h.calm hF0)
  have HSP := (show Hid (ListsAt own z _ (.slice sa sn sc) a.spans) from hsp.fr hF0 (Ext.refl _ _) (fun _ _ h => h))
  have HF0 := (show Hid (Fr _ _ _) from hF0)
  have HL := (show Hid (L.wks[i]? = some l) from hl)
  have Ht := (show Hid (P.ts[i]? = some t) from ht)
  clear h hl ht hF0 hsp
  obtain ⟨ha, haz, hal, hs, hsz, hsl, n1, n2⟩ := H.out.view HL.out Ht.out
  have HT := (show Hid (At _ l.b _ _) from (H.out.wk i l t HL.out Ht.out).at_)
  have hac := HA.out.cell
  have hne : w.heap.size ≠ l.b := (HA.out).ne (HT.out) (by decide)
  have hne' := hne.symm
  simp only [PThread.cells] at ha
  clear hs hsz
  unfold ansV
  go_enter Tryz.func154, Tryz.ntmps154
  go_wp2
  go_end0
  refine ⟨rfl, ZGoes.calm HF0.out (H.out.wkAns2 HL.out Ht.out (t' := { t with work := t.work.conclude a }) ?_ ((((((HT.out.set 18 _).set 19 _).set 20 _).set 21 _).set 22 _).set 7 _) rfl rfl rfl rfl HSP.out rfl)⟩
  repeat (with_reducible first | refine Fr.set1 ?_ _ _ | exact Fr.refl _ _)
end
end Go.Proofs.YtfccelbmacjifaaGreat

