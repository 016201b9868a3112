import Derived.Test.YtfccelbmacjifaaGreatP9
import Derived.Test.YtfccelbmacjifaaGreatP4
namespace Go.Proofs.YtfccelbmacjifaaGreat
open Go.RowKit
section
variable {own : Own} {z : Nat} {w : World} {L : ZLay} {P : PSt}
/-- Any step of an update, from the walk on. -/
theorem update_calls (h : ZAt own z w L P) {i : Nat} {l : WLay} {t : PThread} (hl : L.wks[i]? = some l) (ht : P.ts[i]? = some t) (hU : PUpd P t.work) (hn : 4 ≤ t.work.next ∧ t.work.next ≤ 12) :
    Calls Tryz.prog 113 #[.pointer (some ⟨L.s, 0, none⟩), .pointer (some ⟨l.b, 0, none⟩)] w fun e w' => e = .returned (.int .i64 (P.update i t.work).2) ∧ ZGoes own z w L (P.update i t.work).1 w' := by
  by_cases h1 : t.work.next = 10
  · exact update_10 h hl ht h1
  · by_cases h2 : t.work.next = 11
    · exact update_11 h hl ht h2
    · exact update_low h hl ht hU (by omega)

set_option maxHeartbeats 4000000 in
set_option maxRecDepth 100000 in
theorem makeStep_calls (h : ZAt own z w L P) {i : Nat} {l : WLay} {t : PThread} (hl : L.wks[i]? = some l) (ht : P.ts[i]? = some t) (hU : PUpd P t.work) (hn : 1 ≤ t.work.next ∧ t.work.next ≤ 13) (hkd : t.work.kind = 1 ∨ t.work.kind = 2) :
    Calls Tryz.prog 94 #[.pointer (some ⟨L.s, 0, none⟩), .pointer (some ⟨l.b, 0, none⟩)] w fun e w' => e = .returned (.int .i64 (P.step i t).2) ∧ ZGoes own z w L (P.step i t).1 w' := by
  obtain ⟨ha, haz, hal, hs, hsz, hsl, n1, n2⟩ := h.view hl ht
  simp only [PThread.cells, PSt.head] at ha hs
  have HT := (show Hid (At w l.b _ _) from (h.wk i l t hl ht).at_)
  have H := (show Hid (ZAt own z w L P) from h)
  have HL := (show Hid (L.wks[i]? = some l) from hl)
  have Ht := (show Hid (P.ts[i]? = some t) from ht)
  have HU := (show Hid (PUpd P t.work) from hU)
  clear h hl ht hU hsz
  by_cases c1 : t.work.next = 1
  · have hE : Hid (P.step i t = (P.setT i { t with slot := 1, work := { t.work with next := 2 } }, 1)) := by show _ = _; simp only [PSt.step, c1]
    rw [c1] at ha
    clear c1 hn hkd hs
    go_enter Tryz.func94, Tryz.ntmps94
    go_wp2
    go_ret
    rw [hE.out]
    exact ⟨rfl, ZGoes.here (H.out.wkCells HL.out Ht.out (t' := { t with slot := 1, work := { t.work with next := 2 } }) (((Fr.refl _ _).set1 _ _).set1 _ _) ((HT.out.set 1 _).set 7 _) rfl rfl rfl rfl rfl rfl)⟩
  · by_cases c2 : t.work.next = 2
    · have hE : Hid (P.step i t = (P.setT i { t with work := { t.work with time := P.clock, next := 3 } }, 1)) := by show _ = _; simp only [PSt.step, c2]
      rw [c2] at ha
      clear c1 c2 hn hkd
      go_enter Tryz.func94, Tryz.ntmps94
      go_wp2
      go_ret
      rw [hE.out]
      exact ⟨rfl, ZGoes.here (H.out.wkCells HL.out Ht.out (t' := { t with work := { t.work with time := P.clock, next := 3 } }) (((Fr.refl _ _).set1 _ _).set1 _ _) ((HT.out.set 8 _).set 7 _) rfl rfl rfl rfl rfl rfl)⟩
    · by_cases c3 : t.work.next = 3
      · have hE : Hid (P.step i t = (P.setT i { t with slot := 2, work := t.work.home }, 1)) := by show _ = _; simp only [PSt.step, c3]
        rw [c3] at ha
        clear c1 c2 c3 hn hkd hs
        go_enter Tryz.func94, Tryz.ntmps94
        go_wp2_with fail
        have R := H.out.wkCells HL.out Ht.out (t' := { t with slot := 2 }) ((Fr.refl _ _).set1 _ _) (HT.out.set 1 (.int .i64 2)) rfl rfl rfl rfl rfl rfl
        have Ht1 := (show Hid (_ = some _) from setT_get P Ht.out { t with slot := 2 })
        refine (beginWalk_calls R.1 HL.out Ht1.out).mono ?_
        rintro e w1 ⟨rfl, hZ, hF⟩
        have H1 := (show Hid (ZAt own z w1 L _) from hZ)
        have HF1 := (show Hid (FrZ own z w w1) from FrZ.trans R.2 (Ext.refl _ _) hF)
        clear hZ hF R ha haz
        go_wp2
        go_ret
        rw [hE.out]
        have H1' := H1.out
        rw [setT_setT] at H1'
        exact ⟨rfl, ZGoes.here ⟨H1', HF1.out⟩⟩
      · by_cases c13 : t.work.next = 13
        · have hE : Hid (P.step i t = (P.setT i t.leave, 3)) := by show _ = _; simp only [PSt.step, c13]
          rw [c13] at ha
          clear c1 c2 c3 c13 hn hkd hs
          go_enter Tryz.func94, Tryz.ntmps94
          go_wp2_with fail
          refine (leave_calls H.out HL.out Ht.out).mono ?_
          rintro e w1 ⟨rfl, hG⟩
          have HG := (show Hid (ZGoes _ _ _ _ _ _) from hG)
          clear hG ha haz
          go_wp2
          go_ret
          rw [hE.out]
          exact ⟨rfl, HG.out⟩
        · have hE : Hid (P.step i t = P.update i t.work) := by
            show _ = _
            have hk : ¬ (t.work.kind = 3 ∨ t.work.kind = 4) := by omega
            unfold PSt.step
            split
            · next h => exact absurd h c1
            · next h => exact absurd h c2
            · next h => exact absurd h c3
            · next h => exact absurd h c13
            · rw [if_neg hk]
          have q1 : ((t.work.next : Int) == 1) = false := by simp; omega
          have q2 : ((t.work.next : Int) == 2) = false := by simp; omega
          have q3 : ((t.work.next : Int) == 3) = false := by simp; omega
          have q4 : ((t.work.next : Int) == 13) = false := by simp; omega
          have hr : Hid ((t.work.kind == 3 || t.work.kind == 4) = false) := by
            show _ = _
            rcases hkd with h | h <;> rw [h] <;> rfl
          have hn' : Hid (4 ≤ t.work.next ∧ t.work.next ≤ 12) := by show _ ∧ _; omega
          clear c1 c2 c3 c13 hn hkd hs
          go_enter Tryz.func94, Tryz.ntmps94
          go_wp2_with fail
          refine (isRead_calls t.work.kind _).mono ?_
          rintro e w1 ⟨rfl, rfl⟩
          rw [hr.out]
          go_wp2_with fail
          refine (update_calls H.out HL.out Ht.out HU.out hn'.out).mono ?_
          rintro e w1 ⟨rfl, hG⟩
          have HG := (show Hid (ZGoes _ _ _ _ _ _) from hG)
          clear hG ha haz
          go_wp2
          go_ret
          rw [hE.out]
          exact ⟨rfl, HG.out⟩

set_option maxHeartbeats 400000 in
theorem ZhasThread_calls (h : ZAt own z w L P) (i : Int) :
    Calls Tryz.prog 90 #[.pointer (some ⟨L.s, 0, none⟩), .int .i64 i] w fun e w' => e = .returned (.bool (isIn i 0 (P.ts.length - 1))) ∧ w' = w := by
  obtain ⟨ta, tcap, htv, _⟩ := h.th.shape
  have hc := h.hd.cell
  have hs := h.few
  simp only [PSt.head, htv] at hc
  clear h
  by_cases h1 : 0 ≤ i
  · by_cases h2 : i < P.ts.length
    · go_enter Tryz.func90, Tryz.ntmps90
      go_wp2
      go_ret
      exact ⟨ret_bool (isIn_true (by omega)).symm, rfl⟩
    · go_enter Tryz.func90, Tryz.ntmps90
      go_wp2
      go_ret
      exact ⟨ret_bool (isIn_false (by omega)).symm, rfl⟩
  · go_enter Tryz.func90, Tryz.ntmps90
    go_wp2
    go_ret
    exact ⟨ret_bool (isIn_false (by omega)).symm, rfl⟩

/-- A thread's worker is found. -/
theorem ZAt.wkPtr (h : ZAt own z w L P) {i : Nat} {t : PThread} (ht : P.ts[i]? = some t) : ∃ l tb cap, L.wks[i]? = some l ∧ L.tv = .slice (some ⟨tb, 0, none⟩) P.ts.length cap ∧ w.cell? ⟨tb, i, none⟩ = some (.pointer (some ⟨l.b, 0, none⟩)) := by
  have hi := (List.getElem?_eq_some_iff.1 ht).1
  have hb := List.getElem?_eq_getElem (show i < L.wks.length by rw [h.wlen]; exact hi)
  obtain ⟨sb, cap, hv, _⟩ := ownsRow_shape h.th.row (by omega)
  have ho := h.th.row
  rw [hv] at ho
  exact ⟨_, sb, cap, hb, hv, ownsRow_cell ho (by unfold wptrs; rw [List.getElem?_map, hb]; rfl)⟩

set_option maxHeartbeats 1000000 in
theorem ZStep_none (h : ZAt own z w L P) (i : Int) (hi : ¬ (0 ≤ i ∧ i ≤ P.ts.length - 1)) :
    Calls Tryz.prog 68 #[.pointer (some ⟨L.s, 0, none⟩), .int .i64 i] w fun e w' => e = .returned (.tuple #[.int .i64 0, .int .i64 2]) ∧ w' = w := by
  have hI : Hid (isIn i 0 (P.ts.length - 1) = false) := isIn_false hi
  have H := (show Hid (ZAt own z w L P) from h)
  clear h hi
  go_enter Tryz.func68, Tryz.ntmps68
  go_wp2_with fail
  refine (ZhasThread_calls H.out i).mono ?_
  rintro e w' ⟨rfl, rfl⟩
  rw [hI.out]
  go_wp2
  go_ret2
  exact ⟨rfl, rfl⟩

set_option maxHeartbeats 1000000 in
theorem ZStep_idle (h : ZAt own z w L P) {i : Nat} {t : PThread} (ht : P.ts[i]? = some t) (hb : t.busy = false) :
    Calls Tryz.prog 68 #[.pointer (some ⟨L.s, 0, none⟩), .int .i64 i] w fun e w' => e = .returned (.tuple #[.int .i64 0, .int .i64 4]) ∧ w' = w := by
  have hlt := (List.getElem?_eq_some_iff.1 ht).1
  have hI : Hid (isIn i 0 (P.ts.length - 1) = true) := isIn_true (by omega)
  obtain ⟨l, tb, cap, hl, htv, hptr⟩ := h.wkPtr ht
  obtain ⟨ha, haz, hal, hs, hsz, hsl, n1, n2⟩ := h.view hl ht
  have hf := h.few
  simp only [PThread.cells, PSt.head, hb, htv] at ha hs
  have H := (show Hid (ZAt own z w L P) from h)
  clear h ht hl
  go_enter Tryz.func68, Tryz.ntmps68
  go_wp2_with fail
  refine (ZhasThread_calls H.out i).mono ?_
  rintro e w' ⟨rfl, rfl⟩
  rw [hI.out]
  go_wp2
  go_ret2
  exact ⟨rfl, rfl⟩

set_option maxHeartbeats 1000000 in
theorem ZStep_busy (h : ZAt own z w L P) {i : Nat} {t : PThread} (ht : P.ts[i]? = some t) (hb : t.busy = true) (hU : PUpd P t.work) (hn : 1 ≤ t.work.next ∧ t.work.next ≤ 13) (hkd : t.work.kind = 1 ∨ t.work.kind = 2) :
    Calls Tryz.prog 68 #[.pointer (some ⟨L.s, 0, none⟩), .int .i64 i] w fun e w' => e = .returned (.tuple #[.int .i64 (P.step i t).2, .int .i64 0]) ∧ ZGoes own z w L (P.step i t).1 w' := by
  have hlt := (List.getElem?_eq_some_iff.1 ht).1
  have hI : Hid (isIn i 0 (P.ts.length - 1) = true) := isIn_true (by omega)
  obtain ⟨l, tb, cap, hl, htv, hptr⟩ := h.wkPtr ht
  obtain ⟨ha, haz, hal, hs, hsz, hsl, n1, n2⟩ := h.view hl ht
  have hf := h.few
  simp only [PThread.cells, PSt.head, hb, htv] at ha hs
  have HC := (show Hid (Calls _ _ _ _ _) from makeStep_calls h hl ht hU hn hkd)
  have H := (show Hid (ZAt own z w L P) from h)
  clear h ht hl hU hn hkd
  go_enter Tryz.func68, Tryz.ntmps68
  go_wp2_with fail
  refine (ZhasThread_calls H.out i).mono ?_
  rintro e w' ⟨rfl, rfl⟩
  rw [hI.out]
  go_wp2_with fail
  refine Calls.mono HC.out ?_
  rintro e w1 ⟨rfl, hG⟩
  have HG := (show Hid (ZGoes _ _ _ _ _ _) from hG)
  clear hG ha haz hs hsz hptr
  go_wp2
  go_ret2
  exact ⟨rfl, HG.out⟩
end
end Go.Proofs.YtfccelbmacjifaaGreat

namespace Go.Proofs.YtfccelbmacjifaaGreat
open Go.RowKit

/-- An answer that holds no lists. -/
structure VAns where
  err : Int
  did : Bool
  value : Int
  stamp : Int
def VAns.cells (a : VAns) : List Value := [.int .i64 a.err, .bool a.did, .int .i64 a.value, .int .i64 a.stamp, .slice none 0 0]
def VAns.zero : VAns := ⟨0, false, 0, 0⟩

structure VWork where
  kind : Int
  key : Int
  value : Int
  spans : Value
  next : Int
  time : Int
  stand : Int
  ahead : Int
  above : Int
  locks : Int
  made : Value
  tsrc : Int
  tside : Int
  links : Value
  noted : Value
  ans : VAns
  aspans : Value
def VWork.zero : VWork := ⟨0, 0, 0, .slice none 0 0, 0, 0, 0, 0, 0, 0, .slice none 0 0, 0, 0, .slice none 0 0, .slice none 0 0, VAns.zero, .slice none 0 0⟩

structure VWorker where
  number : Int
  slot : Int
  busy : Bool
  work : VWork
  hasEnded : Bool
  last : VAns
  lspans : Value
def VWorker.cells (t : VWorker) : List Value :=
  [.int .i64 t.number, .int .i64 t.slot, .bool t.busy,
   .int .i64 t.work.kind, .int .i64 t.work.key, .int .i64 t.work.value, t.work.spans, .int .i64 t.work.next, .int .i64 t.work.time, .int .i64 t.work.stand, .int .i64 t.work.ahead, .int .i64 t.work.above, .int .i64 t.work.locks, t.work.made, .int .i64 t.work.tsrc, .int .i64 t.work.tside, t.work.links, t.work.noted,
   .int .i64 t.work.ans.err, .bool t.work.ans.did, .int .i64 t.work.ans.value, .int .i64 t.work.ans.stamp, t.work.aspans,
   .bool t.hasEnded, .int .i64 t.last.err, .bool t.last.did, .int .i64 t.last.value, .int .i64 t.last.stamp, t.lspans]
def VWorker.new (n : Int) : VWorker := ⟨n, 0, false, VWork.zero, false, VAns.zero, .slice none 0 0⟩

structure VSweep where
  made : Int
  clock : Int
  retired : Value
  hasTime : Bool
  time : Int
def VSweep.zero : VSweep := ⟨0, 0, .slice none 0 0, false, 0⟩

/-- Where a store lies. -/
structure XLay where
  s : Nat
  l : MLay
  tb : Nat
  tcap : Nat
  wks : List Nat
/-- What a store holds. -/
structure XSt where
  kind : Int
  limit : Int
  clock : Int
  mem : PMem
  ts : List VWorker
  sweep : VSweep
def ptrs (l : List Nat) : List Value := l.map fun b => .pointer (some ⟨b, 0, none⟩)
structure XAt (w : World) (L : XLay) (X : XSt) : Prop where
  hd : At w L.s [.int .i64 X.kind, .int .i64 X.limit, .int .i64 X.clock, .pointer (some ⟨L.l.m, 0, none⟩), .slice (some ⟨L.tb, 0, none⟩) X.ts.length L.tcap,
    .int .i64 X.sweep.made, .int .i64 X.sweep.clock, X.sweep.retired, .bool X.sweep.hasTime, .int .i64 X.sweep.time] 105
  mem : MAt w L.l X.mem
  thr : w.ownsRow 0 107 1 (.slice (some ⟨L.tb, 0, none⟩) X.ts.length L.tcap) X.ts.length (ptrs L.wks)
  len : L.wks.length = X.ts.length
  wk : ∀ (i b : Nat) (t : VWorker), L.wks[i]? = some b → X.ts[i]? = some t → At w b t.cells 114
  few : X.ts.length ≤ 8
  apart : L.wks.Nodup
/-- The blocks of a store. -/
def XLay.own (L : XLay) (k : Nat) : Prop := k = L.s ∨ k = L.l.m ∨ k = L.l.nb ∨ k = L.l.eb ∨ k = L.tb ∨ k ∈ L.wks

section
variable {w w' : World} {L : XLay} {X : XSt}
theorem XAt.fr {S : Nat → Prop} (h : XAt w L X) (hf : Fr S w w') (hS : ∀ k, L.own k → ¬ S k) : XAt w' L X := by
  refine ⟨hf.at h.hd (hS _ (.inl rfl)), MAt.same h.mem hf (hS _ (.inr (.inl rfl))) (hS _ (.inr (.inr (.inl rfl)))) (hS _ (.inr (.inr (.inr (.inl rfl))))), hf.owns h.thr ?_, h.len, ?_, h.few, h.apart⟩
  · intro k hk; simp [Value.ownBlock] at hk; subst hk; exact hS _ (.inr (.inr (.inr (.inr (.inl rfl)))))
  · intro i b t hb ht
    exact hf.at (h.wk i b t hb ht) (hS _ (.inr (.inr (.inr (.inr (.inr (List.mem_of_getElem? hb)))))))
theorem ptrs_get {l : List Nat} {i b : Nat} (h : l[i]? = some b) : (ptrs l)[i]? = some (.pointer (some ⟨b, 0, none⟩)) := by simp [ptrs, h]
theorem XAt.thread (h : XAt w L X) {i : Nat} {t : VWorker} (ht : X.ts[i]? = some t) : ∃ b, L.wks[i]? = some b ∧ w.cell? ⟨L.tb, i, none⟩ = some (.pointer (some ⟨b, 0, none⟩)) ∧ At w b t.cells 114 := by
  have hi : i < L.wks.length := by rw [h.len]; exact (List.getElem?_eq_some_iff.1 ht).1
  have hb := List.getElem?_eq_getElem hi
  exact ⟨L.wks[i], hb, ownsRow_cell h.thr (ptrs_get hb), h.wk i _ t hb ht⟩
end
end Go.Proofs.YtfccelbmacjifaaGreat

namespace Go.Proofs.YtfccelbmacjifaaGreat
open Go.RowKit

set_option maxHeartbeats 400000 in
theorem isWithin_calls (n a b : Int) (w : World) :
    Calls Tryz.prog 87 #[.int .i64 n, .int .i64 a, .int .i64 b] w fun e w' => e = .returned (.bool (isIn n a b)) ∧ w' = w := by
  by_cases h1 : a ≤ n
  · by_cases h2 : n ≤ b
    · go_enter Tryz.func87, Tryz.ntmps87
      go_wp2
      go_ret
      exact ⟨ret_bool (isIn_true (by omega)).symm, rfl⟩
    · go_enter Tryz.func87, Tryz.ntmps87
      go_wp2
      go_ret
      exact ⟨ret_bool (isIn_false (by omega)).symm, rfl⟩
  · go_enter Tryz.func87, Tryz.ntmps87
    go_wp2
    go_ret
    exact ⟨ret_bool (isIn_false (by omega)).symm, rfl⟩

def cfg (k t n e l : Int) : Value := .agg #[.int .i64 k, .int .i64 t, .int .i64 n, .int .i64 e, .int .i64 l]
/-- P3: settings that may be. -/
def okCfg (k t n e l : Int) : Bool := isIn k 0 1 && isIn t 1 8 && isIn n 0 64 && isIn e 1 256 && isIn l 0 1099511627776

set_option maxHeartbeats 1000000 in
theorem isConfig_calls (k t n e l : Int) (w : World) :
    Calls Tryz.prog 62 #[cfg k t n e l] w fun r w' => r = .returned (.bool (okCfg k t n e l)) ∧ Fr (fun _ => False) w w' := by
  unfold cfg
  by_cases hk : k = 0 ∨ k = 1
  · have h0 : isIn k 0 1 = true := isIn_true (by omega)
    cases ht : isIn t 1 8
    · have hv : Hid (okCfg k t n e l = false) := by show _ = _; simp [okCfg, ht]
      rcases hk with rfl | rfl
      all_goals
        go_enter Tryz.func62, Tryz.ntmps62
        go_wp2_with (go_at_call 87; refine (isWithin_calls _ _ _ _).mono ?_; rintro e w' ⟨rfl, rfl⟩)
        go_ret
        exact ⟨ret_bool hv.out.symm, (Fr.refl _ _).alloc _⟩
    · cases hn : isIn n 0 64
      · have hv : Hid (okCfg k t n e l = false) := by show _ = _; simp [okCfg, hn]
        rcases hk with rfl | rfl
        all_goals
          go_enter Tryz.func62, Tryz.ntmps62
          go_wp2_with (go_at_call 87; refine (isWithin_calls _ _ _ _).mono ?_; rintro e w' ⟨rfl, rfl⟩)
          go_ret
          exact ⟨ret_bool hv.out.symm, (Fr.refl _ _).alloc _⟩
      · cases he : isIn e 1 256
        · have hv : Hid (okCfg k t n e l = false) := by show _ = _; simp [okCfg, he]
          rcases hk with rfl | rfl
          all_goals
            go_enter Tryz.func62, Tryz.ntmps62
            go_wp2_with (go_at_call 87; refine (isWithin_calls _ _ _ _).mono ?_; rintro e w' ⟨rfl, rfl⟩)
            go_ret
            exact ⟨ret_bool hv.out.symm, (Fr.refl _ _).alloc _⟩
        · have hv : Hid (okCfg k t n e l = isIn l 0 1099511627776) := by show _ = _; simp [okCfg, h0, ht, hn, he]
          rcases hk with rfl | rfl
          all_goals
            go_enter Tryz.func62, Tryz.ntmps62
            go_wp2_with (go_at_call 87; refine (isWithin_calls _ _ _ _).mono ?_; rintro e w' ⟨rfl, rfl⟩)
            go_ret
            exact ⟨ret_bool hv.out.symm, (Fr.refl _ _).alloc _⟩
  · have h0 : isIn k 0 1 = false := isIn_false (by omega)
    have hv : Hid (okCfg k t n e l = false) := by show _ = _; simp [okCfg, h0]
    have h1 : (k != 0) = true := by rw [bne_iff_ne]; omega
    have h2 : (k != 1) = true := by rw [bne_iff_ne]; omega
    go_enter Tryz.func62, Tryz.ntmps62
    go_wp2_with (go_at_call 87; refine (isWithin_calls _ _ _ _).mono ?_; rintro e w' ⟨rfl, rfl⟩)
    go_ret
    exact ⟨ret_bool hv.out.symm, (Fr.refl _ _).alloc _⟩

theorem Tryz.infoWorkerPtr : (Tryz.prog.info? 107).map (fun i => (i.zero, i.size, i.bytes)) = some (some (.pointer none), 1, 8) := by kernel_rfl

set_option maxHeartbeats 1000000 in
theorem XNew_no (k t n e l : Int) (w : World) (hok : okCfg k t n e l = false) :
    Calls Tryz.prog 26 #[cfg k t n e l] w fun r w' => r = .returned (.tuple #[.pointer none, .int .i64 1]) ∧ Fr (fun _ => False) w w' := by
  have Hok : Hid (okCfg k t n e l = false) := hok
  clear hok
  unfold cfg
  go_enter Tryz.func26, Tryz.ntmps26
  go_wp2_with fail
  refine (isConfig_calls k t n e l _).mono ?_
  rintro r w' ⟨rfl, hF⟩
  rw [Hok.out]
  go_wp2
  go_ret2
  exact ⟨rfl, ((Fr.refl _ _).alloc _).trans hF⟩

def freshTs (k : Nat) : List VWorker := (List.range k).map fun (i : Nat) => VWorker.new i
/-- A new store. -/
def freshX (k t n e l : Int) : XSt :=
  { kind := k, limit := l, clock := 0, mem := freshMem n.toNat e.toNat, ts := freshTs t.toNat, sweep := VSweep.zero }
theorem freshTs_get {k i : Nat} {t : VWorker} (h : (freshTs k)[i]? = some t) : i < k ∧ t = VWorker.new i := by
  have hi : i < k := by have := (List.getElem?_eq_some_iff.1 h).1; simpa [freshTs] using this
  refine ⟨hi, ?_⟩
  simp [freshTs, hi] at h
  exact h.symm
theorem freshTs_len (k : Nat) : (freshTs k).length = k := by simp [freshTs]

/-- While the threads grow. -/
structure XGrows (w wr : World) (kd l : Int) (s : Nat) (ml : MLay) (tv : Value) (wks : List Nat) (M : PMem) : Prop where
  hd : At wr s [.int .i64 kd, .int .i64 l, .int .i64 0, .pointer (some ⟨ml.m, 0, none⟩), tv, .int .i64 0, .int .i64 0, .slice none 0 0, .bool false, .int .i64 0] 105
  mem : MAt wr ml M
  thr : wr.ownsRow w.heap.size 107 1 tv wks.length (ptrs wks)
  wk : ∀ i b : Nat, wks[i]? = some b → At wr b (VWorker.new i).cells 114
  apart : wks.Nodup
  new : ∀ b, b ∈ wks → w.heap.size ≤ b
  fr : Fr (fun _ => False) w wr
  hs : w.heap.size ≤ s

section
variable {w wr w1 : World} {kd l : Int} {s : Nat} {ml : MLay} {tv : Value} {wks : List Nat} {M : PMem}
theorem XGrows.push (h : XGrows w wr kd l s ml tv wks M) {g cap b : Nat} {v : List Value} (hb : b = wr.heap.size)
    (ho : w1.ownsRow w.heap.size 107 1 (.slice (some ⟨g, 0, none⟩) (wks.length + 1) cap) (wks.length + 1) (ptrs wks ++ [.pointer (some ⟨b, 0, none⟩)]))
    (hg : ((wr.alloc (.cells (VWorker.new wks.length).cells.toArray 114)).alloc (.cells v.toArray 107)).grownBy w1 tv.ownBlock) :
    At w1 s [.int .i64 kd, .int .i64 l, .int .i64 0, .pointer (some ⟨ml.m, 0, none⟩), tv, .int .i64 0, .int .i64 0, .slice none 0 0, .bool false, .int .i64 0] 105 ∧
    XGrows w (w1.setCell ⟨s, 4, none⟩ (.slice (some ⟨g, 0, none⟩) (wks.length + 1) cap)) kd l s ml (.slice (some ⟨g, 0, none⟩) (wks.length + 1) cap) (wks ++ [b]) M := by
  subst hb
  have hA : At w1 s [.int .i64 kd, .int .i64 l, .int .i64 0, .pointer (some ⟨ml.m, 0, none⟩), tv, .int .i64 0, .int .i64 0, .slice none 0 0, .bool false, .int .i64 0] 105 := ((h.hd.alloc _).alloc _).grown hg (h.hd.ne_row (ownsRow_base h.thr) (by decide))
  have hrow : ∀ k, tv.ownBlock = some k → w.heap.size ≤ k ∧ k < wr.heap.size := h.thr.lt
  have hM : MAt w1 ml M := by
    refine ⟨((h.mem.hd.alloc _).alloc _).grown hg (h.mem.hd.ne_row (ownsRow_base h.thr) (by decide)), ((h.mem.nodes.alloc _).alloc _).kept hg ?_, ((h.mem.ents.alloc _).alloc _).kept hg ?_, h.mem.nsmall, h.mem.esmall⟩
    · exact ownsRow_ne h.mem.nodes (ownsRow_base h.thr) (by decide)
    · exact ownsRow_ne h.mem.ents (ownsRow_base h.thr) (by decide)
  have hW : ∀ i b : Nat, (wks ++ [wr.heap.size])[i]? = some b → At w1 b (VWorker.new i).cells 114 := by
    intro i b hi
    by_cases hlt : i < wks.length
    · rw [List.getElem?_append_left hlt] at hi
      exact (((h.wk i b hi).alloc _).alloc _).grown hg ((h.wk i b hi).ne_row (ownsRow_base h.thr) (by decide))
    · have hi' : i = wks.length := by
        have := (List.getElem?_eq_some_iff.1 hi).1
        simp at this; omega
      subst hi'
      simp at hi; subst hi
      have hnew := (At.new wr (VWorker.new wks.length).cells 114).alloc (.cells v.toArray 107)
      refine hnew.grown hg ?_
      intro he
      have := (hrow _ he).2
      omega
  refine ⟨hA, hA.set 4 _, ?_, ?_, ?_, ?_, ?_, ?_, h.hs⟩
  · exact ⟨(MemAt.hd hM).setOther _ ((MemAt.hd hM).ne hA (by decide)) _, ownsRow_setOther (MemAt.nodes hM) (hA.ne_row (MemAt.nodes hM) (by decide)) _, ownsRow_setOther (MemAt.ents hM) (hA.ne_row (MemAt.ents hM) (by decide)) _, (MemAt.nsmall hM), (MemAt.esmall hM)⟩
  · have e : ptrs (wks ++ [wr.heap.size]) = ptrs wks ++ [.pointer (some ⟨wr.heap.size, 0, none⟩)] := by simp [ptrs]
    rw [e, List.length_append]
    exact ownsRow_setOtherB ho (hA.ne_row (ownsRow_base ho) (by decide)) _
  · intro i b hi
    exact (hW i b hi).setOther _ ((hW i b hi).ne hA (by decide)) _
  · rw [List.nodup_append]
    refine ⟨h.apart, by simp, ?_⟩
    intro a ha b hb
    simp at hb; subst hb
    obtain ⟨i, hi⟩ := List.getElem?_of_mem ha
    have := (h.wk i a hi).lt
    omega
  · intro b hb
    simp at hb
    rcases hb with hb | rfl
    · exact h.new b hb
    · exact h.fr.size
  · exact Fr.setNew h.hs (((h.fr.alloc _).alloc _).grown hg (fun k hk => .inr (hrow k hk).1)) _ _
end

set_option maxHeartbeats 4000000 in
set_option maxRecDepth 100000 in
theorem XNew_yes (k t n e l : Int) (w : World) (hok : okCfg k t n e l = true) :
    Calls Tryz.prog 26 #[cfg k t n e l] w fun r w' => ∃ L : XLay, r = .returned (.tuple #[.pointer (some ⟨L.s, 0, none⟩), .int .i64 0]) ∧ XAt w' L (freshX k t n e l) ∧ Fr (fun _ => False) w w' ∧ ∀ b, L.own b → w.heap.size ≤ b := by
  have Hok : Hid (okCfg k t n e l = true) := hok
  have hb : (0 ≤ k ∧ k ≤ 1) ∧ (1 ≤ t ∧ t ≤ 8) ∧ (0 ≤ n ∧ n ≤ 64) ∧ (1 ≤ e ∧ e ≤ 256) ∧ (0 ≤ l ∧ l ≤ 1099511627776) := by
    simp only [okCfg, Bool.and_eq_true, isIn_iff] at hok
    omega
  obtain ⟨⟨k0, k1⟩, ⟨t0, t1⟩, ⟨n0, n1⟩, ⟨e0, e1⟩, ⟨l0, l1⟩⟩ := hb
  obtain ⟨t, rfl⟩ := Int.eq_ofNat_of_zero_le (show 0 ≤ t by omega)
  obtain ⟨n, rfl⟩ := Int.eq_ofNat_of_zero_le n0
  obtain ⟨e, rfl⟩ := Int.eq_ofNat_of_zero_le (show 0 ≤ e by omega)
  obtain ⟨iW, hiW, hzW, hsW, hbW⟩ := info_parts Tryz.infoWorkerPtr
  clear hok
  unfold cfg
  go_enter Tryz.func26, Tryz.ntmps26
  go_wp2_with fail
  refine (isConfig_calls k t n e l _).mono ?_
  rintro r w1 ⟨rfl, hF⟩
  rw [Hok.out]
  have hC : At w1 w.heap.size [.int .i64 k, .int .i64 t, .int .i64 n, .int .i64 e, .int .i64 l] 23 := hF.at (At.new w _ _) (fun h => h)
  have hcc := hC.cell
  have hF1 : Hid (Fr (fun _ => False) w w1) := ((Fr.refl _ _).alloc _).trans hF
  have HC := (show Hid (At w1 w.heap.size _ _) from hC)
  have hsz1 := hC.lt
  clear hF hC
  go_wp2_with fail
  refine (MNew_calls _ n e (by omega) (by omega) (by omega)).mono ?_
  rintro r w2 ⟨ml, rfl, hM, hF2, hm, hnb, heb⟩
  have hS : At w2 w1.heap.size [.int .i64 k, .int .i64 l, .int .i64 0, .pointer none, .slice none 0 0, .int .i64 0, .int .i64 0, .slice none 0 0, .bool false, .int .i64 0] 105 := hF2.at (At.new w1 _ _) (fun h => h)
  have hC2 : At w2 w.heap.size [.int .i64 k, .int .i64 t, .int .i64 n, .int .i64 e, .int .i64 l] 23 := hF2.at (HC.out.alloc _) (fun h => h)
  have hFt : Fr (fun _ => False) w w2 := (hF1.out.alloc _).trans hF2
  simp only [World.size_alloc] at hm hnb heb
  have hne : w.heap.size ≠ w1.heap.size := by omega
  have G0 : XGrows w (w2.setCell ⟨w1.heap.size, 3, none⟩ (.pointer (some ⟨ml.m, 0, none⟩))) k l w1.heap.size ml (.slice none 0 0) [] (freshMem n e) := by
    refine ⟨hS.set 3 _, ?_, World.ownsRow_nil _ _ _ _, by intro i b h; simp at h, by simp, by intro b h; simp at h, Fr.setNew (by omega) hFt _ _, by omega⟩
    exact ⟨(MemAt.hd hM).setOther _ ((MemAt.hd hM).ne hS (by decide)) _, ownsRow_setOther (MemAt.nodes hM) (hS.ne_row (MemAt.nodes hM) (by decide)) _, ownsRow_setOther (MemAt.ents hM) (hS.ne_row (MemAt.ents hM) (by decide)) _, (MemAt.nsmall hM), (MemAt.esmall hM)⟩
  have HG0 := (show Hid (XGrows _ _ _ _ _ _ _ _ _) from G0)
  have HC2 := (show Hid (At (w2.setCell ⟨w1.heap.size, 3, none⟩ (.pointer (some ⟨ml.m, 0, none⟩))) w.heap.size _ _) from hC2.setOther _ hne _)
  have hcs := hS.cell
  have hzs := hS.frozen
  clear hcc hC2 hM hF2 HC G0 hFt hS hF1
  go_wp2_with fail
  clear hcs hzs
  go_loopw [5] (fun i wr => ∃ (j : Nat) (tv : Value) (wks : List Nat), j ≤ t ∧ wks.length = j ∧ i = .int .i64 j ∧ Hid (At wr w.heap.size [.int .i64 k, .int .i64 t, .int .i64 n, .int .i64 e, .int .i64 l] 23) ∧
      Hid (XGrows w wr k l w1.heap.size ml tv wks (freshMem n e))) (fun i _ => t - (intOf i).toNat)
  case atStart => exact ⟨0, _, [], Nat.zero_le _, rfl, rfl, HC2, HG0⟩
  case round =>
    clear HG0 HC2
    obtain ⟨j, tv, wks, hj, hwl, rfl, HC, HG⟩ := hrel
    have hcc := HC.out.cell
    have hcs := HG.out.hd.cell
    have hzs := HG.out.hd.frozen
    have hsz := HG.out.fr.size
    have hl1 := HG.out.hd.lt
    by_cases hjt : j < t
    · subst hwl
      go_wp2_with (at_builtin; refine wpList_push _ rfl _ _ 101 rfl w.heap.size 107 iW (.pointer none) 1 8 Tryz.underlying101 hiW hzW hsW hbW rfl (by decide) _ _ _ rfl (ownsRow_alloc (ownsRow_alloc HG.out.thr _) _) (wr.heap.size + 1) [.pointer (some ⟨wr.heap.size, 0, none⟩)] rfl rfl 107 (At.newAt (by simp) _ _) (by simp [Value.oneCell']) (by unfold maxLen; omega) (by omega) (by simp; omega) ?_)
      intro g cap w' hown hg hge
      have R := HG.out.push (b := wr.heap.size) (v := [.pointer (some ⟨wr.heap.size, 0, none⟩)]) rfl hown hg
      have hC' : At w' w.heap.size [.int .i64 k, .int .i64 t, .int .i64 n, .int .i64 e, .int .i64 l] 23 := ((HC.out.alloc _).alloc _).grown hg (HC.out.ne_row (ownsRow_base HG.out.thr) (by decide))
      obtain ⟨hA, hG⟩ := R
      have hcc := hC'.cell
      have hcs := hA.cell
      have hzs := hA.frozen
      have HG' := (show Hid (XGrows _ _ _ _ _ _ _ _ _) from hG)
      have HC' := (show Hid (At (w'.setCell ⟨w1.heap.size, 4, none⟩ (.slice (some ⟨g, 0, none⟩) (wks.length + 1) cap)) w.heap.size _ _) from hC'.setOther _ hne _)
      clear hA hown hg hG HG HC hC' hsz hl1
      go_wp2
      go_roundw
      case rel => exact ⟨wks.length + 1, _, _, by omega, by simp, by go_num, HC', HG'⟩
      case measure => simp [intOf]; omega
    · have hjt' : j = t := by omega
      subst hjt'
      obtain ⟨tb, tcap, rfl, _⟩ := ownsRow_shape (ownsRow_base HG.out.thr) (by omega)
      have hX : XAt wr ⟨w1.heap.size, ml, tb, tcap, wks⟩ (freshX k j n e l) := by
        refine ⟨?_, ?_, ?_, ?_, ?_, ?_, HG.out.apart⟩
        · simp only [freshX, Int.toNat_natCast, freshTs_len]; rw [← hwl]; exact HG.out.hd
        · simp only [freshX, Int.toNat_natCast]; exact HG.out.mem
        · simp only [freshX, Int.toNat_natCast, freshTs_len]; rw [← hwl]; exact ownsRow_base HG.out.thr
        · simp only [freshX, Int.toNat_natCast, freshTs_len]; exact hwl
        · intro i b t' hb ht
          simp only [freshX, Int.toNat_natCast] at ht
          obtain ⟨_, rfl⟩ := freshTs_get ht
          exact HG.out.wk i b hb
        · simp only [freshX, Int.toNat_natCast, freshTs_len]; omega
      have HX := (show Hid (XAt _ _ _) from hX)
      have hF := (show Hid (Fr _ _ _) from HG.out.fr)
      have hnew := (show Hid (∀ b, b ∈ wks → w.heap.size ≤ b) from HG.out.new)
      have htb := (HG.out.thr.lt tb rfl).1
      clear hX HG hcs hzs hsz hl1
      go_wp2
      go_ret2
      refine ⟨⟨w1.heap.size, ml, tb, tcap, wks⟩, rfl, HX.out, hF.out, ?_⟩
      intro b hb
      simp only [XLay.own] at hb
      rcases hb with rfl | rfl | rfl | rfl | rfl | hb
      · omega
      · omega
      · omega
      · omega
      · omega
      · exact hnew.out b hb
end Go.Proofs.YtfccelbmacjifaaGreat

