import Derived.Test.YtfccelbmacjifaaGreatP19
import Derived.Test.YtfccelbmacjifaaGreatP13
set_option linter.unusedSimpArgs false
namespace Go.Proofs.YtfccelbmacjifaaGreat
open Go.RowKit
section
variable {own : Own} {z : Nat} {w : World} {L : ZLay} {P : PSt}
set_option maxHeartbeats 4000000 in
set_option maxRecDepth 100000 in
theorem lookUp_calls (h : ZAt own z w L P) {i : Nat} {l : WLay} {t : PThread} (hl : L.wks[i]? = some l) (ht : P.ts[i]? = some t) (n : Int) :
    Calls Tryz.prog 129 #[.pointer (some ⟨L.s, 0, none⟩), .pointer (some ⟨l.b, 0, none⟩), .int .i64 n] w fun e w' => e = .returned (.tuple #[]) ∧ ZGoes own z w L (P.setT i { t with work := P.lookUp t.work n }) w' := by
  obtain ⟨ha, haz, hal, hs, hsz, hsl, n1, n2⟩ := h.view hl ht
  simp only [PThread.cells] at ha
  simp only [PSt.head] at hs
  have H := (show Hid (ZAt own z w L P) from h)
  have HL := (show Hid (L.wks[i]? = some l) from hl)
  have Ht := (show Hid (P.ts[i]? = some t) from ht)
  clear h hl ht hsz haz
  go_enter Tryz.func129, Tryz.ntmps129
  go_wp2_with fail
  refine (isPassed_calls H.out n t.work.key).mono ?_
  rintro e w1 ⟨rfl, hF1⟩
  have H1 := (show Hid (ZAt own z w1 L P) from H.out.calm hF1)
  have HF1 := (show Hid (Fr _ w w1) from hF1)
  clear hF1 H ha hs hal hsl
  obtain ⟨ha, haz, hal, hs, hsz, hsl, _, _⟩ := H1.out.view HL.out Ht.out
  have HT := (show Hid (At w1 l.b _ _) from (H1.out.wk i l t HL.out Ht.out).at_)
  simp only [PThread.cells] at ha
  simp only [PSt.head] at hs
  cases hp : P.isPassed n t.work.key
  · have HN : Hid (P.lookUp t.work n = t.work.conclude (if (P.mem.node n).key = t.work.key then { stamp := t.work.time, did := true, value := (P.mem.node n).value } else { stamp := t.work.time })) := by
      show _ = _; unfold PSt.lookUp; rw [hp]; rfl
    go_wp2_with fail
    refine (Node_calls H1.out.mem n).mono ?_
    rintro e w2 ⟨rfl, hF2⟩
    have H2 := (show Hid (ZAt own z w2 L P) from H1.out.calm hF2)
    have HF2 := (show Hid (Fr _ w w2) from HF1.out.trans hF2)
    clear hF2 H1 HF1 ha hs hal hsl haz hsz HT
    obtain ⟨ha, haz, hal, hs, hsz, hsl, _, _⟩ := H2.out.view HL.out Ht.out
    simp only [PThread.cells] at ha
    clear hs hsz
    unfold nodeVal
    generalize P.mem.node n = x at HN ⊢
    go_wp2_with fail
    go_quiet (fail)
    cases hk : (x.key == t.work.key)
    · have HE : Hid (P.lookUp t.work n = t.work.conclude { stamp := t.work.time }) := by
        show _ = _
        rw [HN.out, if_neg (by simpa using hk)]
      go_wp2_with fail
      generalize hw3 : (World.drewN _ _) = w3
      have hF3 : Fr (fun _ => False) w2 w3 := by
        subst hw3
        repeat (with_reducible first | refine Fr.drewN ?_ _ | refine Fr.alloc ?_ _ | exact Fr.refl _ _)
      refine (conclude_calls (H2.out.calm hF3) HL.out Ht.out { stamp := t.work.time } none 0 0 (ListsAt.none _ _ _)).mono ?_
      rintro e w4 ⟨rfl, hZ⟩
      have HZ := (show Hid (ZGoes own z w L _ w4) from ZGoes.calm (HF2.out.trans hF3) hZ)
      clear hZ hF3
      go_wp2
      go_end0
      rw [HE.out]
      exact ⟨rfl, HZ.out⟩
    · have HE : Hid (P.lookUp t.work n = t.work.conclude { stamp := t.work.time, did := true, value := x.value }) := by
        show _ = _
        rw [HN.out, if_pos (by simpa using hk)]
      go_wp2_with fail
      generalize hw3 : World.setCell _ ⟨w2.heap.size + 1, 2, none⟩ _ = w3
      have hF3 : Fr (fun _ => False) w2 w3 := by
        subst hw3
        repeat (with_reducible first | refine Fr.setNew (by omega) ?_ _ _ | refine Fr.drewN ?_ _ | refine Fr.alloc ?_ _ | exact Fr.refl _ _)
      refine (conclude_calls (H2.out.calm hF3) HL.out Ht.out { stamp := t.work.time, did := true, value := x.value } none 0 0 (ListsAt.none _ _ _)).mono ?_
      rintro e w4 ⟨rfl, hZ⟩
      have HZ := (show Hid (ZGoes own z w L _ w4) from ZGoes.calm (HF2.out.trans hF3) hZ)
      clear hZ hF3
      go_wp2
      go_end0
      rw [HE.out]
      exact ⟨rfl, HZ.out⟩
  · have HN : Hid (P.lookUp t.work n = { t.work with stand := n }) := by
      show _ = _; unfold PSt.lookUp; rw [hp]; rfl
    clear hs hsz
    go_wp2
    refine bodyPost_ret (results_none rfl _ _ _) rfl ?_
    rw [HN.out]
    exact ⟨rfl, ZGoes.calm HF1.out (ZGoes.here (H1.out.wkCells HL.out Ht.out (t' := { t with work := { t.work with stand := n } }) ((Fr.refl _ _).set1 _ _) (HT.out.set 9 _) rfl rfl rfl rfl rfl rfl))⟩
theorem foldl_take {α β : Type} {es : List α} {k : Nat} {x : α} (h : es[k]? = some x) (g : β → α → β) (p : β) : (es.take (k + 1)).foldl g p = g ((es.take k).foldl g p) x := by
  rw [List.take_add_one, h, List.foldl_append]; rfl
theorem pair_get {ps : List (Int × Int)} {i : Nat} {p : Int × Int} (h : ps[i]? = some p) : (ps.flatMap pairCells)[i * 2]? = some (.int .i64 p.1) ∧ (ps.flatMap pairCells)[i * 2 + 1]? = some (.int .i64 p.2) := by
  have h0 := tab_get pairCells 2 (fun _ => rfl) ps i 0 p h (by omega)
  have h1 := tab_get pairCells 2 (fun _ => rfl) ps i 1 p h (by omega)
  exact ⟨by simpa [pairCells] using h0, by simpa [pairCells] using h1⟩
set_option maxHeartbeats 2000000 in
set_option maxRecDepth 100000 in
theorem leastLo_calls (w : World) (a : Option Addr) (c : Nat) (ps : List (Int × Int)) (hsm : ps.length ≤ 2 ^ 40)
    (ha : ∀ (i : Nat) p, ps[i]? = some p → ∃ g, a = some ⟨g, 0, none⟩ ∧ w.cell? ⟨g, i * 2, none⟩ = some (.int .i64 p.1) ∧ w.cell? ⟨g, i * 2 + 1, none⟩ = some (.int .i64 p.2)) :
    Calls Tryz.prog 155 #[.slice a ps.length c] w fun r w' => r = .returned (.int .i64 (leastLo ps)) ∧ w' = w := by
  have HA := (show Hid (∀ (i : Nat) p, _) from ha)
  clear ha
  go_enter Tryz.func155, Tryz.ntmps155
  go_wp2
  go_loopw [3, 7] (fun m i wr => ∃ k : Nat, k ≤ ps.length ∧ i = .int .i64 k ∧ ∃ q : Int, m = .int .i64 q ∧ Hid ((ps.take k).foldl (fun m (p : Int × Int) => if p.1 < m then p.1 else m) (2 ^ 40) = q) ∧ Hid (wr = w)) (fun _ i _ => ps.length - (intOf i).toNat)
  case atStart => exact ⟨0, Nat.zero_le _, rfl, 1099511627776, rfl, rfl, rfl⟩
  case round =>
    obtain ⟨k, hk, rfl, q, rfl, HE, HW⟩ := hrel
    obtain rfl := HW.out
    by_cases hlt : k < ps.length
    · have hx : Hid (ps[k]? = some ps[k]) := List.getElem?_eq_getElem hlt
      generalize ps[k] = x at hx
      obtain ⟨g, rfl, c0, c1⟩ := HA.out k x hx.out
      have HN := (show Hid _ from foldl_take hx.out (fun m (p : Int × Int) => if p.1 < m then p.1 else m) (2 ^ 40))
      by_cases h1 : x.1 < q
      · go_wp2
        go_roundw
        case rel => exact ⟨k + 1, by omega, by go_num, x.1, rfl, by show List.foldl _ _ _ = _; rw [HN.out, HE.out, if_pos h1], by first | rfl | (show True; trivial)⟩
        case measure => simp [intOf]; omega
      · go_wp2
        go_roundw
        case rel => exact ⟨k + 1, by omega, by go_num, q, rfl, by show List.foldl _ _ _ = _; rw [HN.out, HE.out, if_neg (by omega)], by first | rfl | (show True; trivial)⟩
        case measure => simp [intOf]; omega
    · have hke : k = ps.length := by omega
      have HF : Hid (leastLo ps = q) := by
        have := HE.out
        rw [hke, List.take_length] at this
        exact this
      clear HE hke
      go_wp2
      go_ret
      exact ⟨ret_int HF.out.symm, rfl⟩
set_option maxHeartbeats 2000000 in
set_option maxRecDepth 100000 in
theorem greatestHi_calls (w : World) (a : Option Addr) (c : Nat) (ps : List (Int × Int)) (hsm : ps.length ≤ 2 ^ 40)
    (ha : ∀ (i : Nat) p, ps[i]? = some p → ∃ g, a = some ⟨g, 0, none⟩ ∧ w.cell? ⟨g, i * 2, none⟩ = some (.int .i64 p.1) ∧ w.cell? ⟨g, i * 2 + 1, none⟩ = some (.int .i64 p.2)) :
    Calls Tryz.prog 156 #[.slice a ps.length c] w fun r w' => r = .returned (.int .i64 (greatestHi ps)) ∧ w' = w := by
  have HA := (show Hid (∀ (i : Nat) p, _) from ha)
  clear ha
  go_enter Tryz.func156, Tryz.ntmps156
  go_wp2
  go_loopw [3, 7] (fun m i wr => ∃ k : Nat, k ≤ ps.length ∧ i = .int .i64 k ∧ ∃ q : Int, m = .int .i64 q ∧ Hid ((ps.take k).foldl (fun m (p : Int × Int) => if p.2 > m then p.2 else m) 0 = q) ∧ Hid (wr = w)) (fun _ i _ => ps.length - (intOf i).toNat)
  case atStart => exact ⟨0, Nat.zero_le _, rfl, 0, rfl, rfl, rfl⟩
  case round =>
    obtain ⟨k, hk, rfl, q, rfl, HE, HW⟩ := hrel
    obtain rfl := HW.out
    by_cases hlt : k < ps.length
    · have hx : Hid (ps[k]? = some ps[k]) := List.getElem?_eq_getElem hlt
      generalize ps[k] = x at hx
      obtain ⟨g, rfl, c0, c1⟩ := HA.out k x hx.out
      have HN := (show Hid _ from foldl_take hx.out (fun m (p : Int × Int) => if p.2 > m then p.2 else m) 0)
      by_cases h1 : q < x.2
      · go_wp2
        go_roundw
        case rel => exact ⟨k + 1, by omega, by go_num, x.2, rfl, by show List.foldl _ _ _ = _; rw [HN.out, HE.out, if_pos h1], by first | rfl | (show True; trivial)⟩
        case measure => simp [intOf]; omega
      · go_wp2
        go_roundw
        case rel => exact ⟨k + 1, by omega, by go_num, q, rfl, by show List.foldl _ _ _ = _; rw [HN.out, HE.out, if_neg (by omega)], by first | rfl | (show True; trivial)⟩
        case measure => simp [intOf]; omega
    · have hke : k = ps.length := by omega
      have HF : Hid (greatestHi ps = q) := by
        have := HE.out
        rw [hke, List.take_length] at this
        exact this
      clear HE hke
      go_wp2
      go_ret
      exact ⟨ret_int HF.out.symm, rfl⟩
end
end Go.Proofs.YtfccelbmacjifaaGreat

namespace Go.Proofs.YtfccelbmacjifaaGreat
open Go.RowKit

/-- An answer that holds no lists. -/
structure VAns where
  err : Int
  did : Bool
  value : Int
  stamp : Int
def VAns.cells (a : VAns) : List Value := [.int .i64 a.err, .bool a.did, .int .i64 a.value, .int .i64 a.stamp, .slice none 0 0]
def VAns.zero : VAns := ⟨0, false, 0, 0⟩

structure VWork where
  kind : Int
  key : Int
  value : Int
  spans : Value
  next : Int
  time : Int
  stand : Int
  ahead : Int
  above : Int
  locks : Int
  made : Value
  tsrc : Int
  tside : Int
  links : Value
  noted : Value
  ans : VAns
  aspans : Value
def VWork.zero : VWork := ⟨0, 0, 0, .slice none 0 0, 0, 0, 0, 0, 0, 0, .slice none 0 0, 0, 0, .slice none 0 0, .slice none 0 0, VAns.zero, .slice none 0 0⟩

structure VWorker where
  number : Int
  slot : Int
  busy : Bool
  work : VWork
  hasEnded : Bool
  last : VAns
  lspans : Value
def VWorker.cells (t : VWorker) : List Value :=
  [.int .i64 t.number, .int .i64 t.slot, .bool t.busy,
   .int .i64 t.work.kind, .int .i64 t.work.key, .int .i64 t.work.value, t.work.spans, .int .i64 t.work.next, .int .i64 t.work.time, .int .i64 t.work.stand, .int .i64 t.work.ahead, .int .i64 t.work.above, .int .i64 t.work.locks, t.work.made, .int .i64 t.work.tsrc, .int .i64 t.work.tside, t.work.links, t.work.noted,
   .int .i64 t.work.ans.err, .bool t.work.ans.did, .int .i64 t.work.ans.value, .int .i64 t.work.ans.stamp, t.work.aspans,
   .bool t.hasEnded, .int .i64 t.last.err, .bool t.last.did, .int .i64 t.last.value, .int .i64 t.last.stamp, t.lspans]
def VWorker.new (n : Int) : VWorker := ⟨n, 0, false, VWork.zero, false, VAns.zero, .slice none 0 0⟩

structure VSweep where
  made : Int
  clock : Int
  retired : Value
  hasTime : Bool
  time : Int
def VSweep.zero : VSweep := ⟨0, 0, .slice none 0 0, false, 0⟩

/-- Where a store lies. -/
structure XLay where
  s : Nat
  l : MLay
  tb : Nat
  tcap : Nat
  wks : List Nat
/-- What a store holds. -/
structure XSt where
  kind : Int
  limit : Int
  clock : Int
  mem : PMem
  ts : List VWorker
  sweep : VSweep
def ptrs (l : List Nat) : List Value := l.map fun b => .pointer (some ⟨b, 0, none⟩)
structure XAt (w : World) (L : XLay) (X : XSt) : Prop where
  hd : At w L.s [.int .i64 X.kind, .int .i64 X.limit, .int .i64 X.clock, .pointer (some ⟨L.l.m, 0, none⟩), .slice (some ⟨L.tb, 0, none⟩) X.ts.length L.tcap,
    .int .i64 X.sweep.made, .int .i64 X.sweep.clock, X.sweep.retired, .bool X.sweep.hasTime, .int .i64 X.sweep.time] 105
  mem : MAt w L.l X.mem
  thr : w.ownsRow 0 107 1 (.slice (some ⟨L.tb, 0, none⟩) X.ts.length L.tcap) X.ts.length (ptrs L.wks)
  len : L.wks.length = X.ts.length
  wk : ∀ (i b : Nat) (t : VWorker), L.wks[i]? = some b → X.ts[i]? = some t → At w b t.cells 114
  few : X.ts.length ≤ 8
  apart : L.wks.Nodup
/-- The blocks of a store. -/
def XLay.own (L : XLay) (k : Nat) : Prop := k = L.s ∨ k = L.l.m ∨ k = L.l.nb ∨ k = L.l.eb ∨ k = L.tb ∨ k ∈ L.wks

section
variable {w w' : World} {L : XLay} {X : XSt}
theorem XAt.fr {S : Nat → Prop} (h : XAt w L X) (hf : Fr S w w') (hS : ∀ k, L.own k → ¬ S k) : XAt w' L X := by
  refine ⟨hf.at h.hd (hS _ (.inl rfl)), MAt.same h.mem hf (hS _ (.inr (.inl rfl))) (hS _ (.inr (.inr (.inl rfl)))) (hS _ (.inr (.inr (.inr (.inl rfl))))), hf.owns h.thr ?_, h.len, ?_, h.few, h.apart⟩
  · intro k hk; simp [Value.ownBlock] at hk; subst hk; exact hS _ (.inr (.inr (.inr (.inr (.inl rfl)))))
  · intro i b t hb ht
    exact hf.at (h.wk i b t hb ht) (hS _ (.inr (.inr (.inr (.inr (.inr (List.mem_of_getElem? hb)))))))
theorem ptrs_get {l : List Nat} {i b : Nat} (h : l[i]? = some b) : (ptrs l)[i]? = some (.pointer (some ⟨b, 0, none⟩)) := by simp [ptrs, h]
theorem XAt.thread (h : XAt w L X) {i : Nat} {t : VWorker} (ht : X.ts[i]? = some t) : ∃ b, L.wks[i]? = some b ∧ w.cell? ⟨L.tb, i, none⟩ = some (.pointer (some ⟨b, 0, none⟩)) ∧ At w b t.cells 114 := by
  have hi : i < L.wks.length := by rw [h.len]; exact (List.getElem?_eq_some_iff.1 ht).1
  have hb := List.getElem?_eq_getElem hi
  exact ⟨L.wks[i], hb, ownsRow_cell h.thr (ptrs_get hb), h.wk i _ t hb ht⟩
end
end Go.Proofs.YtfccelbmacjifaaGreat

namespace Go.Proofs.YtfccelbmacjifaaGreat
open Go.RowKit

set_option maxHeartbeats 400000 in
theorem isWithin_calls (n a b : Int) (w : World) :
    Calls Tryz.prog 87 #[.int .i64 n, .int .i64 a, .int .i64 b] w fun e w' => e = .returned (.bool (isIn n a b)) ∧ w' = w := by
  by_cases h1 : a ≤ n
  · by_cases h2 : n ≤ b
    · go_enter Tryz.func87, Tryz.ntmps87
      go_wp2
      go_ret
      exact ⟨ret_bool (isIn_true (by omega)).symm, rfl⟩
    · go_enter Tryz.func87, Tryz.ntmps87
      go_wp2
      go_ret
      exact ⟨ret_bool (isIn_false (by omega)).symm, rfl⟩
  · go_enter Tryz.func87, Tryz.ntmps87
    go_wp2
    go_ret
    exact ⟨ret_bool (isIn_false (by omega)).symm, rfl⟩

def cfg (k t n e l : Int) : Value := .agg #[.int .i64 k, .int .i64 t, .int .i64 n, .int .i64 e, .int .i64 l]
/-- P3: settings that may be. -/
def okCfg (k t n e l : Int) : Bool := isIn k 0 1 && isIn t 1 8 && isIn n 0 64 && isIn e 1 256 && isIn l 0 1099511627776

set_option maxHeartbeats 1000000 in
theorem isConfig_calls (k t n e l : Int) (w : World) :
    Calls Tryz.prog 62 #[cfg k t n e l] w fun r w' => r = .returned (.bool (okCfg k t n e l)) ∧ Fr (fun _ => False) w w' := by
  unfold cfg
  by_cases hk : k = 0 ∨ k = 1
  · have h0 : isIn k 0 1 = true := isIn_true (by omega)
    cases ht : isIn t 1 8
    · have hv : Hid (okCfg k t n e l = false) := by show _ = _; simp [okCfg, ht]
      rcases hk with rfl | rfl
      all_goals
        go_enter Tryz.func62, Tryz.ntmps62
        go_wp2_with (go_at_call 87; refine (isWithin_calls _ _ _ _).mono ?_; rintro e w' ⟨rfl, rfl⟩)
        go_ret
        exact ⟨ret_bool hv.out.symm, (Fr.refl _ _).alloc _⟩
    · cases hn : isIn n 0 64
      · have hv : Hid (okCfg k t n e l = false) := by show _ = _; simp [okCfg, hn]
        rcases hk with rfl | rfl
        all_goals
          go_enter Tryz.func62, Tryz.ntmps62
          go_wp2_with (go_at_call 87; refine (isWithin_calls _ _ _ _).mono ?_; rintro e w' ⟨rfl, rfl⟩)
          go_ret
          exact ⟨ret_bool hv.out.symm, (Fr.refl _ _).alloc _⟩
      · cases he : isIn e 1 256
        · have hv : Hid (okCfg k t n e l = false) := by show _ = _; simp [okCfg, he]
          rcases hk with rfl | rfl
          all_goals
            go_enter Tryz.func62, Tryz.ntmps62
            go_wp2_with (go_at_call 87; refine (isWithin_calls _ _ _ _).mono ?_; rintro e w' ⟨rfl, rfl⟩)
            go_ret
            exact ⟨ret_bool hv.out.symm, (Fr.refl _ _).alloc _⟩
        · have hv : Hid (okCfg k t n e l = isIn l 0 1099511627776) := by show _ = _; simp [okCfg, h0, ht, hn, he]
          rcases hk with rfl | rfl
          all_goals
            go_enter Tryz.func62, Tryz.ntmps62
            go_wp2_with (go_at_call 87; refine (isWithin_calls _ _ _ _).mono ?_; rintro e w' ⟨rfl, rfl⟩)
            go_ret
            exact ⟨ret_bool hv.out.symm, (Fr.refl _ _).alloc _⟩
  · have h0 : isIn k 0 1 = false := isIn_false (by omega)
    have hv : Hid (okCfg k t n e l = false) := by show _ = _; simp [okCfg, h0]
    have h1 : (k != 0) = true := by rw [bne_iff_ne]; omega
    have h2 : (k != 1) = true := by rw [bne_iff_ne]; omega
    go_enter Tryz.func62, Tryz.ntmps62
    go_wp2_with (go_at_call 87; refine (isWithin_calls _ _ _ _).mono ?_; rintro e w' ⟨rfl, rfl⟩)
    go_ret
    exact ⟨ret_bool hv.out.symm, (Fr.refl _ _).alloc _⟩

theorem Tryz.infoWorkerPtr : (Tryz.prog.info? 107).map (fun i => (i.zero, i.size, i.bytes)) = some (some (.pointer none), 1, 8) := by kernel_rfl

def freshTs (k : Nat) : List VWorker := (List.range k).map fun (i : Nat) => VWorker.new i
/-- A new store. -/
def freshX (k t n e l : Int) : XSt :=
  { kind := k, limit := l, clock := 0, mem := freshMem n.toNat e.toNat, ts := freshTs t.toNat, sweep := VSweep.zero }
theorem freshTs_get {k i : Nat} {t : VWorker} (h : (freshTs k)[i]? = some t) : i < k ∧ t = VWorker.new i := by
  have hi : i < k := by have := (List.getElem?_eq_some_iff.1 h).1; simpa [freshTs] using this
  refine ⟨hi, ?_⟩
  simp [freshTs, hi] at h
  exact h.symm
theorem freshTs_len (k : Nat) : (freshTs k).length = k := by simp [freshTs]

/-- While the threads grow. -/
structure XGrows (w wr : World) (kd l : Int) (s : Nat) (ml : MLay) (tv : Value) (wks : List Nat) (M : PMem) : Prop where
  hd : At wr s [.int .i64 kd, .int .i64 l, .int .i64 0, .pointer (some ⟨ml.m, 0, none⟩), tv, .int .i64 0, .int .i64 0, .slice none 0 0, .bool false, .int .i64 0] 105
  mem : MAt wr ml M
  thr : wr.ownsRow w.heap.size 107 1 tv wks.length (ptrs wks)
  wk : ∀ i b : Nat, wks[i]? = some b → At wr b (VWorker.new i).cells 114
  apart : wks.Nodup
  new : ∀ b, b ∈ wks → w.heap.size ≤ b
  fr : Fr (fun _ => False) w wr
  hs : w.heap.size ≤ s

section
variable {w wr w1 : World} {kd l : Int} {s : Nat} {ml : MLay} {tv : Value} {wks : List Nat} {M : PMem}
theorem XGrows.push (h : XGrows w wr kd l s ml tv wks M) {g cap b : Nat} {v : List Value} (hb : b = wr.heap.size)
    (ho : w1.ownsRow w.heap.size 107 1 (.slice (some ⟨g, 0, none⟩) (wks.length + 1) cap) (wks.length + 1) (ptrs wks ++ [.pointer (some ⟨b, 0, none⟩)]))
    (hg : ((wr.alloc (.cells (VWorker.new wks.length).cells.toArray 114)).alloc (.cells v.toArray 107)).grownBy w1 tv.ownBlock) :
    At w1 s [.int .i64 kd, .int .i64 l, .int .i64 0, .pointer (some ⟨ml.m, 0, none⟩), tv, .int .i64 0, .int .i64 0, .slice none 0 0, .bool false, .int .i64 0] 105 ∧
    XGrows w (w1.setCell ⟨s, 4, none⟩ (.slice (some ⟨g, 0, none⟩) (wks.length + 1) cap)) kd l s ml (.slice (some ⟨g, 0, none⟩) (wks.length + 1) cap) (wks ++ [b]) M := by
  subst hb
  have hA : At w1 s [.int .i64 kd, .int .i64 l, .int .i64 0, .pointer (some ⟨ml.m, 0, none⟩), tv, .int .i64 0, .int .i64 0, .slice none 0 0, .bool false, .int .i64 0] 105 := ((h.hd.alloc _).alloc _).grown hg (h.hd.ne_row (ownsRow_base h.thr) (by decide))
  have hrow : ∀ k, tv.ownBlock = some k → w.heap.size ≤ k ∧ k < wr.heap.size := h.thr.lt
  have hM : MAt w1 ml M := by
    refine ⟨((h.mem.hd.alloc _).alloc _).grown hg (h.mem.hd.ne_row (ownsRow_base h.thr) (by decide)), ((h.mem.nodes.alloc _).alloc _).kept hg ?_, ((h.mem.ents.alloc _).alloc _).kept hg ?_, h.mem.nsmall, h.mem.esmall⟩
    · exact ownsRow_ne h.mem.nodes (ownsRow_base h.thr) (by decide)
    · exact ownsRow_ne h.mem.ents (ownsRow_base h.thr) (by decide)
  have hW : ∀ i b : Nat, (wks ++ [wr.heap.size])[i]? = some b → At w1 b (VWorker.new i).cells 114 := by
    intro i b hi
    by_cases hlt : i < wks.length
    · rw [List.getElem?_append_left hlt] at hi
      exact (((h.wk i b hi).alloc _).alloc _).grown hg ((h.wk i b hi).ne_row (ownsRow_base h.thr) (by decide))
    · have hi' : i = wks.length := by
        have := (List.getElem?_eq_some_iff.1 hi).1
        simp at this; omega
      subst hi'
      simp at hi; subst hi
      have hnew := (At.new wr (VWorker.new wks.length).cells 114).alloc (.cells v.toArray 107)
      refine hnew.grown hg ?_
      intro he
      have := (hrow _ he).2
      omega
  refine ⟨hA, hA.set 4 _, ?_, ?_, ?_, ?_, ?_, ?_, h.hs⟩
  · exact ⟨(MemAt.hd hM).setOther _ ((MemAt.hd hM).ne hA (by decide)) _, ownsRow_setOther (MemAt.nodes hM) (hA.ne_row (MemAt.nodes hM) (by decide)) _, ownsRow_setOther (MemAt.ents hM) (hA.ne_row (MemAt.ents hM) (by decide)) _, (MemAt.nsmall hM), (MemAt.esmall hM)⟩
  · have e : ptrs (wks ++ [wr.heap.size]) = ptrs wks ++ [.pointer (some ⟨wr.heap.size, 0, none⟩)] := by simp [ptrs]
    rw [e, List.length_append]
    exact ownsRow_setOtherB ho (hA.ne_row (ownsRow_base ho) (by decide)) _
  · intro i b hi
    exact (hW i b hi).setOther _ ((hW i b hi).ne hA (by decide)) _
  · rw [List.nodup_append]
    refine ⟨h.apart, by simp, ?_⟩
    intro a ha b hb
    simp at hb; subst hb
    obtain ⟨i, hi⟩ := List.getElem?_of_mem ha
    have := (h.wk i a hi).lt
    omega
  · intro b hb
    simp at hb
    rcases hb with hb | rfl
    · exact h.new b hb
    · exact h.fr.size
  · exact Fr.setNew h.hs (((h.fr.alloc _).alloc _).grown hg (fun k hk => .inr (hrow k hk).1)) _ _
end

set_option maxHeartbeats 4000000 in
set_option maxRecDepth 100000 in
theorem XNew_yes (k t n e l : Int) (w : World) (hok : okCfg k t n e l = true) :
    Calls Tryz.prog 26 #[cfg k t n e l] w fun r w' => ∃ L : XLay, r = .returned (.tuple #[.pointer (some ⟨L.s, 0, none⟩), .int .i64 0]) ∧ XAt w' L (freshX k t n e l) ∧ Fr (fun _ => False) w w' ∧ ∀ b, L.own b → w.heap.size ≤ b := by
  have Hok : Hid (okCfg k t n e l = true) := hok
  have hb : (0 ≤ k ∧ k ≤ 1) ∧ (1 ≤ t ∧ t ≤ 8) ∧ (0 ≤ n ∧ n ≤ 64) ∧ (1 ≤ e ∧ e ≤ 256) ∧ (0 ≤ l ∧ l ≤ 1099511627776) := by
    simp only [okCfg, Bool.and_eq_true, isIn_iff] at hok
    omega
  obtain ⟨⟨k0, k1⟩, ⟨t0, t1⟩, ⟨n0, n1⟩, ⟨e0, e1⟩, ⟨l0, l1⟩⟩ := hb
  obtain ⟨t, rfl⟩ := Int.eq_ofNat_of_zero_le (show 0 ≤ t by omega)
  obtain ⟨n, rfl⟩ := Int.eq_ofNat_of_zero_le n0
  obtain ⟨e, rfl⟩ := Int.eq_ofNat_of_zero_le (show 0 ≤ e by omega)
  obtain ⟨iW, hiW, hzW, hsW, hbW⟩ := info_parts Tryz.infoWorkerPtr
  clear hok
  unfold cfg
  go_enter Tryz.func26, Tryz.ntmps26
  go_wp2_with fail
  refine (isConfig_calls k t n e l _).mono ?_
  rintro r w1 ⟨rfl, hF⟩
  rw [Hok.out]
  have hC : At w1 w.heap.size [.int .i64 k, .int .i64 t, .int .i64 n, .int .i64 e, .int .i64 l] 23 := hF.at (At.new w _ _) (fun h => h)
  have hcc := hC.cell
  have hF1 : Hid (Fr (fun _ => False) w w1) := ((Fr.refl _ _).alloc _).trans hF
  have HC := (show Hid (At w1 w.heap.size _ _) from hC)
  have hsz1 := hC.lt
  clear hF hC
  go_wp2_with fail
  refine (MNew_calls _ n e (by omega) (by omega) (by omega)).mono ?_
  rintro r w2 ⟨ml, rfl, hM, hF2, hm, hnb, heb⟩
  have hS : At w2 w1.heap.size [.int .i64 k, .int .i64 l, .int .i64 0, .pointer none, .slice none 0 0, .int .i64 0, .int .i64 0, .slice none 0 0, .bool false, .int .i64 0] 105 := hF2.at (At.new w1 _ _) (fun h => h)
  have hC2 : At w2 w.heap.size [.int .i64 k, .int .i64 t, .int .i64 n, .int .i64 e, .int .i64 l] 23 := hF2.at (HC.out.alloc _) (fun h => h)
  have hFt : Fr (fun _ => False) w w2 := (hF1.out.alloc _).trans hF2
  simp only [World.size_alloc] at hm hnb heb
  have hne : w.heap.size ≠ w1.heap.size := by omega
  have G0 : XGrows w (w2.setCell ⟨w1.heap.size, 3, none⟩ (.pointer (some ⟨ml.m, 0, none⟩))) k l w1.heap.size ml (.slice none 0 0) [] (freshMem n e) := by
    refine ⟨hS.set 3 _, ?_, World.ownsRow_nil _ _ _ _, by intro i b h; simp at h, by simp, by intro b h; simp at h, Fr.setNew (by omega) hFt _ _, by omega⟩
    exact ⟨(MemAt.hd hM).setOther _ ((MemAt.hd hM).ne hS (by decide)) _, ownsRow_setOther (MemAt.nodes hM) (hS.ne_row (MemAt.nodes hM) (by decide)) _, ownsRow_setOther (MemAt.ents hM) (hS.ne_row (MemAt.ents hM) (by decide)) _, (MemAt.nsmall hM), (MemAt.esmall hM)⟩
  have HG0 := (show Hid (XGrows _ _ _ _ _ _ _ _ _) from G0)
  have HC2 := (show Hid (At (w2.setCell ⟨w1.heap.size, 3, none⟩ (.pointer (some ⟨ml.m, 0, none⟩))) w.heap.size _ _) from hC2.setOther _ hne _)
  have hcs := hS.cell
  have hzs := hS.frozen
  clear hcc hC2 hM hF2 HC G0 hFt hS hF1
  go_wp2_with fail
  clear hcs hzs
  go_loopw [5] (fun i wr => ∃ (j : Nat) (tv : Value) (wks : List Nat), j ≤ t ∧ wks.length = j ∧ i = .int .i64 j ∧ Hid (At wr w.heap.size [.int .i64 k, .int .i64 t, .int .i64 n, .int .i64 e, .int .i64 l] 23) ∧
      Hid (XGrows w wr k l w1.heap.size ml tv wks (freshMem n e))) (fun i _ => t - (intOf i).toNat)
  case atStart => exact ⟨0, _, [], Nat.zero_le _, rfl, rfl, HC2, HG0⟩
  case round =>
    clear HG0 HC2
    obtain ⟨j, tv, wks, hj, hwl, rfl, HC, HG⟩ := hrel
    have hcc := HC.out.cell
    have hcs := HG.out.hd.cell
    have hzs := HG.out.hd.frozen
    have hsz := HG.out.fr.size
    have hl1 := HG.out.hd.lt
    by_cases hjt : j < t
    · subst hwl
      go_wp2_with (at_builtin; refine wpList_push _ rfl _ _ 101 rfl w.heap.size 107 iW (.pointer none) 1 8 Tryz.underlying101 hiW hzW hsW hbW rfl (by decide) _ _ _ rfl (ownsRow_alloc (ownsRow_alloc HG.out.thr _) _) (wr.heap.size + 1) [.pointer (some ⟨wr.heap.size, 0, none⟩)] rfl rfl 107 (At.newAt (by simp) _ _) (by simp [Value.oneCell']) (by unfold maxLen; omega) (by omega) (by simp; omega) ?_)
      intro g cap w' hown hg hge
      have R := HG.out.push (b := wr.heap.size) (v := [.pointer (some ⟨wr.heap.size, 0, none⟩)]) rfl hown hg
      have hC' : At w' w.heap.size [.int .i64 k, .int .i64 t, .int .i64 n, .int .i64 e, .int .i64 l] 23 := ((HC.out.alloc _).alloc _).grown hg (HC.out.ne_row (ownsRow_base HG.out.thr) (by decide))
      obtain ⟨hA, hG⟩ := R
      have hcc := hC'.cell
      have hcs := hA.cell
      have hzs := hA.frozen
      have HG' := (show Hid (XGrows _ _ _ _ _ _ _ _ _) from hG)
      have HC' := (show Hid (At (w'.setCell ⟨w1.heap.size, 4, none⟩ (.slice (some ⟨g, 0, none⟩) (wks.length + 1) cap)) w.heap.size _ _) from hC'.setOther _ hne _)
      clear hA hown hg hG HG HC hC' hsz hl1
      go_wp2
      go_roundw
      case rel => exact ⟨wks.length + 1, _, _, by omega, by simp, by go_num, HC', HG'⟩
      case measure => simp [intOf]; omega
    · have hjt' : j = t := by omega
      subst hjt'
      obtain ⟨tb, tcap, rfl, _⟩ := ownsRow_shape (ownsRow_base HG.out.thr) (by omega)
      have hX : XAt wr ⟨w1.heap.size, ml, tb, tcap, wks⟩ (freshX k j n e l) := by
        refine ⟨?_, ?_, ?_, ?_, ?_, ?_, HG.out.apart⟩
        · simp only [freshX, Int.toNat_natCast, freshTs_len]; rw [← hwl]; exact HG.out.hd
        · simp only [freshX, Int.toNat_natCast]; exact HG.out.mem
        · simp only [freshX, Int.toNat_natCast, freshTs_len]; rw [← hwl]; exact ownsRow_base HG.out.thr
        · simp only [freshX, Int.toNat_natCast, freshTs_len]; exact hwl
        · intro i b t' hb ht
          simp only [freshX, Int.toNat_natCast] at ht
          obtain ⟨_, rfl⟩ := freshTs_get ht
          exact HG.out.wk i b hb
        · simp only [freshX, Int.toNat_natCast, freshTs_len]; omega
      have HX := (show Hid (XAt _ _ _) from hX)
      have hF := (show Hid (Fr _ _ _) from HG.out.fr)
      have hnew := (show Hid (∀ b, b ∈ wks → w.heap.size ≤ b) from HG.out.new)
      have htb := (HG.out.thr.lt tb rfl).1
      clear hX HG hcs hzs hsz hl1
      go_wp2
      go_ret2
      refine ⟨⟨w1.heap.size, ml, tb, tcap, wks⟩, rfl, HX.out, hF.out, ?_⟩
      intro b hb
      simp only [XLay.own] at hb
      rcases hb with rfl | rfl | rfl | rfl | rfl | hb
      · omega
      · omega
      · omega
      · omega
      · omega
      · exact hnew.out b hb
end Go.Proofs.YtfccelbmacjifaaGreat

set_option linter.unusedSimpArgs false
namespace Go.Proofs.YtfccelbmacjifaaGreat
open Go.RowKit
/-- The cells of a list of pairs, wherever it lies at its head. -/
def PairsAt (w : World) (a : Option Addr) (ps : List (Int × Int)) : Prop := ∀ (i : Nat) p, ps[i]? = some p → ∃ g, a = some ⟨g, 0, none⟩ ∧ w.cell? ⟨g, i * 2, none⟩ = some (.int .i64 p.1) ∧ w.cell? ⟨g, i * 2 + 1, none⟩ = some (.int .i64 p.2)
theorem cellHeap {w w' : World} {a : Addr} (h : w'.heap[a.block]? = w.heap[a.block]?) : w'.cell? a = w.cell? a := by
  unfold World.cell?; rw [h]
theorem cellLt {w : World} {a : Addr} {v : Value} (h : w.cell? a = some v) : a.block < w.heap.size := by
  rcases Nat.lt_or_ge a.block w.heap.size with h1 | h1
  · exact h1
  · unfold World.cell? at h; rw [Array.getElem?_eq_none h1] at h; simp at h
theorem Fr.keepCell {w w' : World} (hf : Fr (fun _ => False) w w') {a : Addr} {v : Value} (h : w.cell? a = some v) : w'.cell? a = some v := by
  rw [cellHeap (hf.block a.block (cellLt h) (fun hh => hh))]; exact h
theorem PairsAt.calm {w w' : World} {a : Option Addr} {ps : List (Int × Int)} (h : PairsAt w a ps) (hf : Fr (fun _ => False) w w') : PairsAt w' a ps := by
  intro i p hp
  obtain ⟨g, e, c0, c1⟩ := h i p hp
  exact ⟨g, e, hf.keepCell c0, hf.keepCell c1⟩
theorem PairsAt.ofRow {own : Own} {z : Nat} {w : World} {tag : Tag} {T : TypeId} {a : Option Addr} {c n : Nat} {ps : List (Int × Int)} (h : Row own z w tag T 2 (.slice a n c) ps.length (ps.flatMap pairCells)) : PairsAt w a ps := by
  intro i p hp
  have hn : ps.length ≠ 0 := by intro e; rw [List.eq_nil_of_length_eq_zero e] at hp; simp at hp
  obtain ⟨g, c', hv, _⟩ := ownsRow_shape h.row hn
  have ho := h.row
  rw [hv] at ho
  obtain ⟨h1, h2⟩ := pair_get hp
  simp at hv
  exact ⟨g, hv.1, ownsRow_cell ho h1, ownsRow_cell ho h2⟩
theorem Tryz.infoPr : (Tryz.prog.info? 147).map (fun i => (i.zero, i.size, i.bytes)) = some (some (.agg #[.int .i64 0, .int .i64 0]), 2, 16) := by kernel_rfl
theorem Tryz.infoPs : (Tryz.prog.info? 58).map (fun i => (i.zero, i.size, i.bytes)) = some (some (.slice none 0 0), 1, 24) := by kernel_rfl
theorem filter_take {α : Type} {es : List α} {k : Nat} {x : α} (h : es[k]? = some x) (p : α → Bool) : (es.take (k + 1)).filter p = (es.take k).filter p ++ (if p x then [x] else []) := by
  rw [List.take_add_one, h, List.filter_append]
  simp only [Option.toList_some, List.filter_cons, List.filter_nil]
/-- A list of its own. -/
structure OwnPairs (w0 w : World) (v : Value) (ps : List (Int × Int)) : Prop where
  row : w.ownsRow 0 147 2 v ps.length (ps.flatMap pairCells)
  new : ∀ k, v.ownBlock = some k → w0.heap.size ≤ k
  fr : Fr (fun _ => False) w0 w
theorem OwnPairs.calm {w0 w w' : World} {v : Value} {ps : List (Int × Int)} (h : OwnPairs w0 w v ps) (hf : Fr (fun _ => False) w w') : OwnPairs w0 w' v ps := ⟨hf.owns h.row (fun _ _ h => h), h.new, h.fr.trans hf⟩
set_option maxHeartbeats 4000000 in
set_option maxRecDepth 100000 in
theorem pairsIn_calls (w : World) (sp : Int × Int) (a : Option Addr) (c : Nat) (ps : List (Int × Int)) (hsm : ps.length ≤ 2 ^ 40) (ha : PairsAt w a ps) :
    Calls Tryz.prog 180 #[.agg #[.int .i64 sp.1, .int .i64 sp.2], .slice a ps.length c] w fun r w' => ∃ v, r = .returned v ∧ OwnPairs w w' v (ps.filter (inSpan sp)) := by
  obtain ⟨iP, hiP, hzP, hsP, hbP⟩ := info_parts Tryz.infoPr
  have HA := (show Hid (PairsAt w a ps) from ha)
  have HB0 := (show Hid (At (w.alloc (.cells #[.int .i64 sp.1, .int .i64 sp.2] 138)) w.heap.size [.int .i64 sp.1, .int .i64 sp.2] 138) from At.new w [.int .i64 sp.1, .int .i64 sp.2] _)
  have HF0 := (show Hid (Fr (fun _ => False) w (w.alloc (.cells #[.int .i64 sp.1, .int .i64 sp.2] 138))) from (Fr.refl _ _).alloc _)
  clear ha
  go_enter Tryz.func180, Tryz.ntmps180
  go_wp2
  go_loopw [5, 9] (fun v i wr => ∃ k : Nat, k ≤ ps.length ∧ i = .int .i64 k ∧ Hid (OwnPairs w wr v ((ps.take k).filter (inSpan sp))) ∧ Hid (At wr w.heap.size [.int .i64 sp.1, .int .i64 sp.2] 138) ∧ Hid (v.ownBlock ≠ some w.heap.size)) (fun _ i _ => ps.length - (intOf i).toNat)
  case atStart =>
    refine ⟨0, Nat.zero_le _, rfl, ⟨⟨by simp, .inl ⟨rfl, rfl⟩⟩, by intro k hk; simp [Value.ownBlock] at hk, HF0.out⟩, HB0, ?_⟩
    show _ ≠ _
    simp [Value.ownBlock]
  case round =>
    clear HB0 HF0
    obtain ⟨k, hk, rfl, HO, HB, HNB⟩ := hrel
    have hbc := HB.out.cell
    by_cases hlt : k < ps.length
    · have hx : Hid (ps[k]? = some ps[k]) := List.getElem?_eq_getElem hlt
      generalize ps[k] = x at hx
      obtain ⟨g, rfl, c0, c1⟩ := (HA.out.calm HO.out.fr) k x hx.out
      have HN := (show Hid _ from filter_take hx.out (inSpan sp))
      go_wp2_with fail
      refine wp_region_calm [9] 0 rfl (by kernel_rfl) (by kernel_rfl) (by kernel_rfl) (by decide) (by kernel_rfl) (by decide) ?_
      intro U W hU hW
      have d0 : ∀ u, (W u).cell? ⟨g, k * 2, none⟩ = some (.int .i64 x.1) := fun u => (hW u).keepCell c0
      have hbu : ∀ u o, (W u).cell? ⟨w.heap.size, o, none⟩ = [Value.int .i64 sp.1, .int .i64 sp.2][o]? := fun u => ((hW u).at HB.out (fun h => h)).cell
      clear hW
      repeat (refine mix_read rfl rfl ?_; go_big_quiet_step (fail); refine wpQuiet_nil ?_)
      refine mix_effC (.bool (inSpan sp x)) rfl rfl rfl ?_ ?_
      · intro w' hw'
        go_simp
        refine (isWithin_calls x.1 sp.1 sp.2 w').mono ?_
        rintro e w'' ⟨rfl, rfl⟩
        exact ⟨rfl, hw'⟩
      go_simp
      refine mix_nil ?_
      intro w2 hw2
      have HF2 := (show Hid (Fr (fun _ => False) wr w2) from hw2)
      have c0 := hw2.keepCell c0
      have c1 := hw2.keepCell c1
      have HO2 := (show Hid (OwnPairs w w2 _ _) from HO.out.calm hw2)
      have HB2 := (show Hid (At w2 w.heap.size _ _) from hw2.at HB.out (fun h => h))
      clear d0 hbu hw2 hbc HO HB HF2
      cases hin : inSpan sp x
      · go_wp2
        go_roundw
        case rel => exact ⟨k + 1, by omega, by go_num, by show OwnPairs _ _ _ _; rw [HN.out, hin]; simpa using HO2.out, HB2, HNB⟩
        case measure => simp [intOf]; omega
      · have HFL := (show Hid (((ps.take k).filter (inSpan sp)).length ≤ 2 ^ 40) from Nat.le_trans (List.length_filter_le _ _) (by rw [List.length_take]; omega))
        go_wp2_with (at_builtin; refine wpList_push _ rfl _ _ 58 rfl 0 147 iP _ 2 16 Tryz.underlying58 hiP hzP hsP hbP rfl (by decide) _ _ _ rfl (ownsRow_alloc HO2.out.row _) w2.heap.size [.int .i64 x.1, .int .i64 x.2] rfl rfl 147 (At.newAt (by simp) _ _) (by simp [Value.oneCell']) (by have := HFL.out; unfold maxLen; omega) (by have := HFL.out; omega) (by simp) ?_)
        intro g' cap w3 hown hgr hge
        have HO3 : Hid (OwnPairs w w3 (.slice (some ⟨g', 0, none⟩) (((ps.take k).filter (inSpan sp)).length + 1) cap) ((ps.take (k + 1)).filter (inSpan sp))) := by
          show OwnPairs _ _ _ _
          rw [HN.out, hin]
          refine ⟨?_, ?_, Fr.grown (HO2.out.fr.alloc _) hgr (fun k hk => .inr (HO2.out.new k hk))⟩
          · simpa [pairCells] using hown
          · intro q hq
            simp [Value.ownBlock] at hq
            subst hq
            rcases hge with h | h
            · exact HO2.out.new _ h
            · have := HO2.out.fr.size; first | omega | (simp at h; omega)
        have HB3 : Hid (At w3 w.heap.size [.int .i64 sp.1, .int .i64 sp.2] 138) := (Fr.grown (S := fun j => u5.ownBlock = some j) (Fr.refl _ _) hgr (fun j hj => .inl hj)).at (HB2.out.alloc _) HNB.out
        have HNB3 : Hid ((Value.slice (some ⟨g', 0, none⟩) (((ps.take k).filter (inSpan sp)).length + 1) cap).ownBlock ≠ some w.heap.size) := by
          show _ ≠ _
          intro e
          simp [Value.ownBlock] at e
          subst e
          rcases hge with h | h
          · exact HNB.out h
          · have := HB2.out.lt; first | omega | (simp at h; omega)
        clear hown hgr hge HO2 HB2 HNB
        go_wp2
        go_roundw
        case rel => exact ⟨k + 1, by omega, by go_num, HO3, HB3, HNB3⟩
        case measure => simp [intOf]; omega
    · have hke : k = ps.length := by omega
      have HO' : Hid (OwnPairs w wr u5 (ps.filter (inSpan sp))) := by
        have := HO.out
        rw [hke, List.take_length] at this
        exact this
      clear HO hke
      go_wp2
      go_ret
      exact ⟨u5, rfl, HO'.out⟩
end Go.Proofs.YtfccelbmacjifaaGreat

