import Derived.Test.YtfccelbmacjifaaGreatP12
import Derived.Test.YtfccelbmacjifaaGreatP13
namespace Go.Proofs.YtfccelbmacjifaaGreat
open Go.RowKit
theorem ownsRow_slice {w : World} {e : TypeId} {size : Nat} {v : Value} {n : Nat} {xs : List Value} (h : w.ownsRow 0 e size v n xs) : ∃ a c, v = .slice a n c := by
  rcases h.2 with ⟨rfl, rfl⟩ | ⟨g, cap, _, rfl, _⟩
  · exact ⟨none, 0, rfl⟩
  · exact ⟨_, cap, rfl⟩
section
variable {own : Own} {z : Nat} {w : World} {L : BLay} {R : BSt}
set_option maxHeartbeats 2000000 in
theorem BRoom_calls (h : BAt own z w L R) (hn : 1 ≤ R.spots.length) (hl : R.spots.length ≤ 2 ^ 42)
    (hlow : ∀ k, k ≤ R.spots.length → -(2 ^ 60) ≤ (roomTo R.spots R.nodes R.entries k).1 ∧ (roomTo R.spots R.nodes R.entries k).1 ≤ 2 ^ 60 ∧ -(2 ^ 60) ≤ (roomTo R.spots R.nodes R.entries k).2 ∧ (roomTo R.spots R.nodes R.entries k).2 ≤ 2 ^ 60) :
    Calls Tryz.prog 78 #[.pointer (some ⟨L.s, 0, none⟩)] w fun e w' =>
      e = .returned (.tuple #[.int .i64 (roomTo R.spots R.nodes R.entries R.spots.length).1, .int .i64 (roomTo R.spots R.nodes R.entries R.spots.length).2]) ∧ w' = w := by
  have hc := h.hd.cell
  simp only [BSt.head] at hc
  obtain ⟨sb, cap, hv⟩ := h.svShape (by omega)
  rw [hv] at hc
  have HR := (show Hid (BAt own z w L R) from h)
  have hLow := (show Hid (∀ k, k ≤ R.spots.length → _) from hlow)
  have hV := (show Hid (L.sv = _) from hv)
  clear h hlow hv
  go_enter Tryz.func78, Tryz.ntmps78
  go_wp2
  go_loop [4, 5, 6, 7, 8] (fun a b i _ _ => ∃ k : Nat, k ≤ R.spots.length ∧ i = .int .i64 k ∧ a = .int .i64 (roomTo R.spots R.nodes R.entries k).1 ∧ b = .int .i64 (roomTo R.spots R.nodes R.entries k).2) (fun _ _ i _ _ => R.spots.length - (intOf i).toNat)
  case atStart => exact ⟨0, Nat.zero_le _, rfl, rfl, rfl⟩
  case round =>
    obtain ⟨k, hk, rfl, rfl, rfl⟩ := hrel
    by_cases hlt : k < R.spots.length
    · have hx : R.spots[k]? = some (R.sp k) := by simp [BSt.sp, hlt]
      have hnext : Hid (roomTo R.spots R.nodes R.entries (k + 1) = roomStep k (R.sp k) (roomTo R.spots R.nodes R.entries k)) := by show _ = _; simp [roomTo, hx]
      have h0 := hLow.out k (by omega)
      have h1 := hLow.out (k + 1) (by omega)
      rw [hnext.out] at h1
      generalize roomTo R.spots R.nodes R.entries k = p at *
      obtain ⟨pn, pe⟩ := p
      dsimp only at h0 h1
      obtain ⟨b, sb', cap', hb, hv', hcb, _, hA⟩ := HR.out.spotAt hlt
      rw [hV.out] at hv'
      simp only [Value.slice.injEq, Option.some.injEq, Addr.mk.injEq, and_true, true_and] at hv'
      obtain ⟨rfl, rfl⟩ := hv'
      have hca := hA.at_.cell
      obtain ⟨a0, c0, q0⟩ := ownsRow_slice (hA.st false).row
      obtain ⟨a1, c1, q1⟩ := ownsRow_slice (hA.st true).row
      simp only [BSpot.cells, q0, q1] at hca
      clear hb hA hx q0 q1
      generalize R.sp k = x at *
      cases hfr : x.free
      · rw [hfr] at hca
        have e1 : Hid (roomStep k x (pn, pe) = ((if 1 < k then pn - 1 else pn), sideRoom x pe 2)) := by show _ = _; simp [roomStep, hfr]
        rw [e1.out] at h1
        obtain ⟨h11, h12, h13, h14⟩ := h1
        obtain ⟨h01, h02, h03, h04⟩ := h0
        simp only [sideRoom] at h13 h14
        have hb0 : b2i (x.opn false) = 0 ∨ b2i (x.opn false) = 1 := by cases x.opn false <;> simp [b2i]
        have hb1 : b2i (x.opn true) = 0 ∨ b2i (x.opn true) = 1 := by cases x.opn true <;> simp [b2i]
        have s0 : Hid (sideRoom x pe 1 = pe - ((x.st false).length : Int) - b2i (x.opn false)) := rfl
        have s1 : Hid (sideRoom x pe 2 = pe - ((x.st false).length : Int) - b2i (x.opn false) - ((x.st true).length : Int) - b2i (x.opn true)) := rfl
        have hI : Hid ((if 1 < k then pn - 1 else pn) = pn - 1 ∨ ¬ 1 < k) := by
          by_cases h : 1 < k
          · left; simp [h]
          · right; exact h
        have hp : -(2 ^ 60) ≤ pn - 1 ∨ ¬ 1 < k := by
          by_cases h : 1 < k
          · left; simp only [h, if_true] at h11; exact h11
          · right; exact h
        clear h11 h12
        have e2 : Hid (∀ q, (1 < k → q = pn - 1) → (¬ 1 < k → q = pn) → roomTo R.spots R.nodes R.entries (k + 1) = (q, sideRoom x pe 2)) := by
          intro q q1 q2
          rw [hnext.out, e1.out]
          by_cases h : 1 < k
          · simp [h, q1 h]
          · simp [h, q2 h]
        clear hI e1 hnext
        by_cases h1k : 1 < k
        · have q1 : -(2 ^ 60) ≤ pn - 1 := by omega
          have e3 : Hid (roomTo R.spots R.nodes R.entries (k + 1) = (pn - 1, sideRoom x pe 2)) := e2.out _ (fun _ => rfl) (fun h => absurd h1k h)
          clear hp e2
          go_wp2_with fail
          go_loop [5, 8] (fun e s => ∃ j : Nat, j ≤ 2 ∧ s = .int .i64 j ∧ e = .int .i64 (sideRoom x pe j)) (fun _ s => 2 - (intOf s).toNat)
          case atStart => exact ⟨0, by omega, rfl, rfl⟩
          case round =>
            obtain ⟨j, hj, rfl, rfl⟩ := hrel
            rcases (show j = 0 ∨ j = 1 ∨ j = 2 by omega) with rfl | rfl | rfl
            · cases ho : x.opn false
              all_goals
                have s0' := s0.out
                simp only [ho, b2i_true, b2i_false] at hca s0' h13 h14
                have s0 : Hid _ := s0'
                clear s0'
                have z : Hid (sideRoom x pe 0 = pe) := rfl
                rw [z.out]
                go_wp2
                go_round
                case rel => exact ⟨1, by omega, rfl, by rw [s0.out]; first | done | go_num⟩
                case measure => simp [intOf]
            · rw [s0.out]
              cases ho : x.opn true
              all_goals
                have s1' := s1.out
                simp only [ho, b2i_true, b2i_false] at hca s1' h13 h14
                have s1 : Hid _ := s1'
                clear s1'
                go_wp2
                go_round
                case rel => exact ⟨2, by omega, rfl, by rw [s1.out]; first | done | go_num⟩
                case measure => simp [intOf]
            · go_wp2
              go_round
              case rel => exact ⟨k + 1, by omega, by go_num, by rw [e3.out], by rw [e3.out]⟩
              case measure => simp [intOf]; omega
        · have e3 : Hid (roomTo R.spots R.nodes R.entries (k + 1) = (pn, sideRoom x pe 2)) := e2.out _ (fun h => absurd h h1k) (fun _ => rfl)
          clear hp e2
          go_wp2_with fail
          go_loop [5, 8] (fun e s => ∃ j : Nat, j ≤ 2 ∧ s = .int .i64 j ∧ e = .int .i64 (sideRoom x pe j)) (fun _ s => 2 - (intOf s).toNat)
          case atStart => exact ⟨0, by omega, rfl, rfl⟩
          case round =>
            obtain ⟨j, hj, rfl, rfl⟩ := hrel
            rcases (show j = 0 ∨ j = 1 ∨ j = 2 by omega) with rfl | rfl | rfl
            · cases ho : x.opn false
              all_goals
                have s0' := s0.out
                simp only [ho, b2i_true, b2i_false] at hca s0' h13 h14
                have s0 : Hid _ := s0'
                clear s0'
                have z : Hid (sideRoom x pe 0 = pe) := rfl
                rw [z.out]
                go_wp2
                go_round
                case rel => exact ⟨1, by omega, rfl, by rw [s0.out]; first | done | go_num⟩
                case measure => simp [intOf]
            · rw [s0.out]
              cases ho : x.opn true
              all_goals
                have s1' := s1.out
                simp only [ho, b2i_true, b2i_false] at hca s1' h13 h14
                have s1 : Hid _ := s1'
                clear s1'
                go_wp2
                go_round
                case rel => exact ⟨2, by omega, rfl, by rw [s1.out]; first | done | go_num⟩
                case measure => simp [intOf]
            · go_wp2
              go_round
              case rel => exact ⟨k + 1, by omega, by go_num, by rw [e3.out], by rw [e3.out]⟩
              case measure => simp [intOf]; omega
      · rw [hfr] at hca
        have e1 : Hid (roomStep k x (pn, pe) = (pn, pe)) := by show _ = _; simp [roomStep, hfr]
        clear h1 h0
        go_wp2
        go_round
        case rel => exact ⟨k + 1, by omega, by go_num, by rw [hnext.out, e1.out], by rw [hnext.out, e1.out]⟩
        case measure => simp [intOf]; omega
    · have hk' : k = R.spots.length := by omega
      subst hk'
      go_wp2
      go_ret2
      exact ⟨rfl, rfl⟩
end
end Go.Proofs.YtfccelbmacjifaaGreat

namespace Go.Proofs.YtfccelbmacjifaaGreat
open Go.RowKit
section
variable {own : Own} {z : Nat} {w : World} {L : BLay} {R : BSt}
/-- A thread's cells have turned, and its answer is one without lists. -/
theorem BAt.goesErr (h : BAt own z w L R) {w' : World} {i : Nat} {l : TLay} {t t' : BThread} (hl : L.ths[i]? = some l) (ht : R.ts[i]? = some t) (hf : Fr (fun k => k = l.b) w w')
    (hA : At w' l.b (t'.cells { l with aspans := .slice none 0 0 }) 136)
    (e1 : t'.ospans = t.ospans) (e2 : t'.want = t.want) (e3 : t'.new = t.new) (e4 : t'.todo = t.todo) (e5 : t'.found = t.found) (e6 : t'.ans.spans = []) (e7 : t'.last.spans = t.last.spans) :
    Goes own z w L (R.setTh i t') w' := by
  have hT := h.thr i l t hl ht
  have hE := Ext.refl own w
  have hn : ∀ tag, tag ≠ Tag.thread i → ∀ k, own k = ⟨z, tag⟩ → ¬ k = l.b := by
    rintro tag hne k hk rfl; rw [hT.tg] at hk; simp at hk; exact hne hk.symm
  refine h.goesRows hl rfl (FrT.one hf hT.tg (.inl rfl)) hE (l' := { l with aspans := .slice none 0 0 }) ?_
  refine ⟨hA, hT.tg, ?_, ?_, ?_, ?_, ?_, ?_, ?_⟩
  · rw [e1]; exact hT.spans.fr hf hE (hn _ (by simp))
  · rw [e2]; exact hT.want.fr hf hE (hn _ (by simp))
  · rw [e3]; exact hT.new.fr hf hE (hn _ (by simp))
  · rw [e4]; exact hT.todo.fr hf hE (hn _ (by simp))
  · rw [e5]; exact hT.found.fr hf hE (hn _ (by simp))
  · rw [e6]; exact ListsAt.none _ _ _
  · rw [e7]; exact hT.llists.fr hf hE (hn _ (by simp))

/-- What Room wants to know. -/
def RoomOk (R : BSt) : Prop := ∀ k, k ≤ R.spots.length → -(2 ^ 60) ≤ (roomTo R.spots R.nodes R.entries k).1 ∧ (roomTo R.spots R.nodes R.entries k).1 ≤ 2 ^ 60 ∧ -(2 ^ 60) ≤ (roomTo R.spots R.nodes R.entries k).2 ∧ (roomTo R.spots R.nodes R.entries k).2 ≤ 2 ^ 60

set_option maxHeartbeats 1000000 in
set_option maxRecDepth 100000 in
/-- Step 7 in a list: too little room. -/
theorem preparesL_full (h : BAt own z w L R) (hk : R.kind = 0) {i : Nat} {l : TLay} {t : BThread} (hl : L.ths[i]? = some l) (ht : R.ts[i]? = some t) (hn : 1 ≤ R.spots.length) (hn' : R.spots.length ≤ 2 ^ 42) (hr : RoomOk R)
    (hfull : R.room.1 < (R.needs t).1 ∨ R.room.2 < (R.needs t).2) :
    Calls Tryz.prog 145 #[.pointer (some ⟨L.s, 0, none⟩), .pointer (some ⟨l.b, 0, none⟩)] w fun e w' => e = .returned (.tuple #[]) ∧ Goes own z w L (R.prepares i t) w' := by
  have hE : Hid (R.prepares i t = R.setTh i { t with ans := { err := 7 }, at_ := 12 }) := by show _ = _; unfold BSt.prepares; rw [if_pos hfull]
  obtain ⟨ha, haz, hal, hs, hsz, hsl, n1, n2⟩ := h.view hl ht
  have HB := (show Hid (BAt own z w L R) from h)
  have HL := (show Hid (L.ths[i]? = some l) from hl)
  have Ht := (show Hid (R.ts[i]? = some t) from ht)
  have HT := (show Hid (At w l.b _ _) from (h.thr i l t hl ht).at_)
  have HR := (show Hid (RoomOk R) from hr)
  simp only [BThread.cells, BSt.head, hk] at ha hs
  clear h hl ht hr
  have hRoom : Hid (roomTo R.spots R.nodes R.entries R.spots.length = R.room) := rfl
  generalize hrm : R.room = rm at *
  obtain ⟨rn, re⟩ := rm
  have hEnd : ∀ n, ∀ w', w' = (((((((w.drewN n).setCell ⟨l.b, 25, none⟩ (.int .i64 7)).setCell ⟨l.b, 26, none⟩ (.bool false)).setCell ⟨l.b, 27, none⟩ (.int .i64 0)).setCell ⟨l.b, 28, none⟩ (.int .i64 0)).setCell ⟨l.b, 29, none⟩ (.slice none 0 0)).setCell ⟨l.b, 6, none⟩ (.int .i64 12)) → Goes own z w L (R.prepares i t) w' := by
    rintro n w' rfl
    rw [hE.out]
    refine HB.out.goesErr HL.out Ht.out ?_ ?_ rfl rfl rfl rfl rfl rfl rfl
    · repeat (with_reducible first | refine Fr.set1 ?_ _ _ | refine Fr.alloc ?_ _ | refine Fr.drewN ?_ _ | refine Fr.drew ?_ | exact Fr.refl _ _)
    · exact ((((((HT.out.drewN _).set 25 _).set 26 _).set 27 _).set 28 _).set 29 _).set 6 _
  have HEnd := (show Hid (∀ n, ∀ w', _) from hEnd)
  clear hEnd
  by_cases hki : t.okind = 1
  · have hnd : R.needs t = (1, 2) := by simp [BSt.needs, hki, hk]
    rw [hnd] at hfull
    dsimp only at hfull
    rw [hki] at ha
    by_cases hlt : rn < 1
    · go_enter Tryz.func145, Tryz.ntmps145
      go_wp2_with fail
      refine (BRoom_calls HB.out hn hn' HR.out).mono ?_
      rintro e w' ⟨rfl, rfl⟩
      rw [hRoom.out]
      go_wp2_with fail
      (try simp only [Exit.inBlock, Exit.then])
      refine bodyPost_ret (results_none rfl _ _ _) rfl ?_
      exact ⟨rfl, HEnd.out 0 _ rfl⟩
    · have hlt2 : re < 2 := by omega
      go_enter Tryz.func145, Tryz.ntmps145
      go_wp2_with fail
      refine (BRoom_calls HB.out hn hn' HR.out).mono ?_
      rintro e w' ⟨rfl, rfl⟩
      rw [hRoom.out]
      go_wp2_with fail
      (try simp only [Exit.inBlock, Exit.then])
      refine bodyPost_ret (results_none rfl _ _ _) rfl ?_
      exact ⟨rfl, HEnd.out 0 _ rfl⟩
  · have hnd : R.needs t = (0, 1) := by simp [BSt.needs, hki]
    rw [hnd] at hfull
    dsimp only at hfull
    by_cases hlt : rn < 0
    · go_enter Tryz.func145, Tryz.ntmps145
      go_wp2_with fail
      refine (BRoom_calls HB.out hn hn' HR.out).mono ?_
      rintro e w' ⟨rfl, rfl⟩
      rw [hRoom.out]
      go_wp2_with fail
      (try simp only [Exit.inBlock, Exit.then])
      refine bodyPost_ret (results_none rfl _ _ _) rfl ?_
      exact ⟨rfl, HEnd.out 0 _ rfl⟩
    · have hlt2 : re < 1 := by omega
      go_enter Tryz.func145, Tryz.ntmps145
      go_wp2_with fail
      refine (BRoom_calls HB.out hn hn' HR.out).mono ?_
      rintro e w' ⟨rfl, rfl⟩
      rw [hRoom.out]
      go_wp2_with fail
      (try simp only [Exit.inBlock, Exit.then])
      refine bodyPost_ret (results_none rfl _ _ _) rfl ?_
      exact ⟨rfl, HEnd.out 0 _ rfl⟩
end
end Go.Proofs.YtfccelbmacjifaaGreat

namespace Go.Proofs.YtfccelbmacjifaaGreat
open Go.RowKit
section
variable {own : Own} {z : Nat} {w : World} {L : BLay} {R : BSt}
set_option maxHeartbeats 1000000 in
set_option maxRecDepth 100000 in
/-- Step 7 in a list: Insert. -/
theorem preparesL_ins (h : BAt own z w L R) (hk : R.kind = 0) {i : Nat} {l : TLay} {t : BThread} (hl : L.ths[i]? = some l) (ht : R.ts[i]? = some t) (hn : 1 ≤ R.spots.length) (hn' : R.spots.length < 2 ^ 42) (hr : RoomOk R) (hxs : t.xs = false) (hx : t.x < R.spots.length)
    (hki : t.okind = 1) (hroom : ¬ (R.room.1 < (R.needs t).1 ∨ R.room.2 < (R.needs t).2)) :
    Calls Tryz.prog 145 #[.pointer (some ⟨L.s, 0, none⟩), .pointer (some ⟨l.b, 0, none⟩)] w fun e w' => e = .returned (.tuple #[]) ∧ Goes own z w L (R.prepares i t) w' := by
  have hE : Hid (R.prepares i t = ((R.push (nodeOf t.okey t.ovalue t.c)).setTh i { t with at_ := 8, src := t.x, side := false, new := [R.spots.length], dst := R.spots.length }).mapSp t.x fun x => { x with opn := upd x.opn false true }) := by
    show _ = _
    have hk1 : ¬ R.kind = 1 := by omega
    unfold BSt.prepares; rw [if_neg hroom]; simp only [hki, if_true, if_neg hk1, BSt.grownL, hxs]
  have hnd : R.needs t = (1, 2) := by simp [BSt.needs, hki, hk]
  rw [hnd] at hroom
  obtain ⟨ha, haz, hal, hs, hsz, hsl, n1, n2⟩ := h.view hl ht
  have HB := (show Hid (BAt own z w L R) from h)
  have HL := (show Hid (L.ths[i]? = some l) from hl)
  have Ht := (show Hid (R.ts[i]? = some t) from ht)
  have HT := (show Hid (At w l.b _ _) from (h.thr i l t hl ht).at_)
  have HR := (show Hid (RoomOk R) from hr)
  simp only [BThread.cells, BSt.head, hk, hxs, hki, b2i_false] at ha hs
  clear h hl ht hr hnd
  have hRoom : Hid (roomTo R.spots R.nodes R.entries R.spots.length = R.room) := rfl
  generalize hrm : R.room = rm at *
  obtain ⟨rn, re⟩ := rm
  dsimp only at hroom
  have hr1 : 1 ≤ rn := by omega
  have hr2 : 2 ≤ re := by omega
  have hti : i < R.ts.length := (List.getElem?_eq_some_iff.1 Ht.out).1
  go_enter Tryz.func145, Tryz.ntmps145
  go_wp2_with fail
  refine (BRoom_calls HB.out hn (by omega) HR.out).mono ?_
  rintro e w ⟨rfl, rfl⟩
  rw [hRoom.out]
  go_wp2_with fail
  have hB1 := HB.out.thrCells (t' := { t with at_ := 8, src := t.x, side := false }) (w' := ((w.setCell ⟨l.b, 6, none⟩ (.int .i64 8)).setCell ⟨l.b, 16, none⟩ (.int .i64 t.x)).setCell ⟨l.b, 17, none⟩ (.int .i64 0)) HL.out Ht.out
    (((Fr.refl _ _).set1 _ _).set1 _ _ |>.set1 _ _) (((HT.out.set 6 _).set 16 _).set 17 _) rfl rfl rfl rfl rfl rfl rfl
  have hZ1 := HB.out.thrZone (w' := ((w.setCell ⟨l.b, 6, none⟩ (.int .i64 8)).setCell ⟨l.b, 16, none⟩ (.int .i64 t.x)).setCell ⟨l.b, 17, none⟩ (.int .i64 0)) HL.out Ht.out (((Fr.refl _ _).set1 _ _).set1 _ _ |>.set1 _ _)
  have HZ1 := (show Hid (FrZ own z w _) from hZ1)
  have HT1 : Hid ((R.setTh i { t with at_ := 8, src := t.x, side := false }).ts[i]? = some { t with at_ := 8, src := t.x, side := false }) := by show _ = _; simp [BSt.setTh, hti]
  refine (grownL_calls hB1 hk HL.out HT1.out hn').mono ?_
  rintro e w2 ⟨rfl, own2, L2, hB2, hE2, hF2, e1, e2⟩
  obtain ⟨R2, hR2, hB2⟩ : ∃ R2 : BSt, R2 = ((R.push (nodeOf t.okey t.ovalue t.c)).setTh i { t with at_ := 8, src := t.x, side := false, new := [R.spots.length] }) ∧ BAt own2 z w2 L2 R2 := by
    refine ⟨_, rfl, ?_⟩
    have := hB2
    simp only [BSt.setTh, BSt.push, List.set_set] at this ⊢
    exact this
  have hlenS : R2.spots.length = R.spots.length + 1 := by rw [hR2]; simp [BSt.setTh, BSt.push]
  have hx2 : t.x < R2.spots.length := by omega
  have hts2 : R2.ts[i]? = some { t with at_ := 8, src := t.x, side := false, new := [R.spots.length] } := by rw [hR2]; simp [BSt.setTh, BSt.push, hti]
  obtain ⟨l2, hl2, hlb⟩ : ∃ l2, L2.ths[i]? = some l2 ∧ l2.b = l.b := by
    have h1 : (L2.ths.map (·.b))[i]? = (L.ths.map (·.b))[i]? := by rw [e2]
    rw [List.getElem?_map, List.getElem?_map, HL.out] at h1
    cases h2 : L2.ths[i]? with
    | none => rw [h2] at h1; simp at h1
    | some l2 => rw [h2] at h1; simp at h1; exact ⟨l2, rfl, h1⟩
  clear hB1 hZ1 ha haz hal hs hsz hsl n1 n2
  obtain ⟨ha, haz, hal, hs, hsz, hsl, n1, n2⟩ := hB2.view hl2 hts2
  obtain ⟨sb, cap, hv⟩ := hB2.svShape (Nat.lt_of_le_of_lt (Nat.zero_le _) hx2)
  obtain ⟨lc, hlc, hcp, hcc, hcz, hcl, k1, k2, k3, k4, k5, hAc⟩ := hB2.viewSp hl2 hts2 hx2 hv
  have n3 := (hB2.thr i l2 _ hl2 hts2).at_.ne_row hB2.sp.row (by decide)
  rw [hv] at n3
  have n3' : sb ≠ l2.b := by simpa [Value.ownBlock] using n3
  simp only [BThread.cells, BSt.head, hv, hlenS, b2i_false] at ha hs
  rw [hlb] at ha haz hal n1 n2 k1 k2 n3'
  rw [e1] at hs hsz hsl n1 n2 k3 k4
  simp only [BSpot.cells] at hcc
  have HB2 := (show Hid (BAt own2 z w2 L2 _) from hB2)
  have HE2 := (show Hid (Ext own own2 _) from hE2)
  have HF2 := (show Hid (FrZ own z _ w2) from hF2)
  have HR2 := (show Hid (R2 = _) from hR2)
  have HTS2 := (show Hid (_ = some _) from hts2)
  have HL2 := (show Hid (L2.ths[i]? = some l2) from hl2)
  have HA := (show Hid (At w2 lc.b _ _) from hAc)
  have HTT := (show Hid (At w2 l2.b _ _) from (hB2.thr i l2 _ hl2 hts2).at_)
  have HLC := (show Hid (L2.sps[t.x]? = some lc) from hlc)
  have HLB := (show Hid (l2.b = l.b) from hlb)
  have hx1 : t.x < R.spots.length + 1 := by omega
  clear hB2 hE2 hF2 hx2 hts2 hl2 hAc hlc hlb hv n3 hlenS hR2
  go_wp2_with fail
  go_region
  go_wp2_with fail
  go_end0
  have hx3 : t.x < R2.spots.length := by rw [HR2.out]; simp [BSt.setTh, BSt.push]; omega
  rw [hE.out, BSt.mapSp_set (by simp [BSt.setTh, BSt.push]; omega)]
  have hX := fun w' h1 h2 h3 => HB2.out.bothCells (w' := w') HL2.out HTS2.out (t' := { t with at_ := 8, src := t.x, side := false, new := [R.spots.length], dst := R.spots.length }) (x' := { R2.sp t.x with opn := upd (R2.sp t.x).opn false true }) HLC.out hx3 h1 h2 h3 rfl rfl rfl rfl rfl rfl rfl rfl
  have hst : ∀ y, (({ R2 with spots := R2.spots.set t.x y } : BSt).setTh i { t with at_ := 8, src := t.x, side := false, new := [R.spots.length], dst := R.spots.length }) = ({ (R.push (nodeOf t.okey t.ovalue t.c)).setTh i { t with at_ := 8, src := t.x, side := false, new := [R.spots.length], dst := R.spots.length } with spots := (R.push (nodeOf t.okey t.ovalue t.c)).spots.set t.x y } : BSt) := by
    intro y; rw [HR2.out]; simp only [BSt.setTh, BSt.push, List.set_set]
  have hsp : R2.sp t.x = ((R.push (nodeOf t.okey t.ovalue t.c)).setTh i { t with at_ := 8, src := t.x, side := false, new := [R.spots.length], dst := R.spots.length }).sp t.x := by rw [HR2.out]; rfl
  rw [hst, hsp] at hX
  have hTT := HTT.out
  rw [HLB.out] at hTT
  simp only [HLB.out] at hX
  refine ⟨rfl, Goes.trans (own1 := own2) (L1 := L2) (fun k hk => HE2.out k (by simpa using hk)) (FrZ.trans HZ1.out (Ext.refl _ _) HF2.out) e1 e2 (Goes.here (hX _ ?_ ?_ ?_))⟩
  · repeat (with_reducible first | refine Fr.setIn (.inl rfl) ?_ _ _ | refine Fr.setIn (.inr rfl) ?_ _ _ | refine Fr.alloc ?_ _ | refine Fr.drewN ?_ _ | refine Fr.drew ?_ | exact Fr.refl _ _)
  · exact ((hTT.set 18 _).setOther _ k2 _).drew
  · have hAx := HA.out
    rw [hsp] at hAx
    exact ((hAx.setOther ⟨l.b, 18, none⟩ k1 _).set 8 _).drew

set_option maxHeartbeats 1000000 in
set_option maxRecDepth 100000 in
/-- Step 7 in a list: Remove. -/
theorem preparesL_rem (h : BAt own z w L R) (hk : R.kind = 0) {i : Nat} {l : TLay} {t : BThread} (hl : L.ths[i]? = some l) (ht : R.ts[i]? = some t) (hn : 1 ≤ R.spots.length) (hn' : R.spots.length < 2 ^ 42) (hr : RoomOk R) (hxs : t.xs = false) (hx : t.x < R.spots.length) (hc : t.c < R.spots.length)
    (hki : t.okind ≠ 1) (hroom : ¬ (R.room.1 < (R.needs t).1 ∨ R.room.2 < (R.needs t).2)) :
    Calls Tryz.prog 145 #[.pointer (some ⟨L.s, 0, none⟩), .pointer (some ⟨l.b, 0, none⟩)] w fun e w' => e = .returned (.tuple #[]) ∧ Goes own z w L (R.prepares i t) w' := by
  have hE : Hid (R.prepares i t = (R.setTh i { t with at_ := 8, src := t.x, side := false, dst := (R.sp t.c).now false }).mapSp t.x fun x => { x with opn := upd x.opn false true }) := by
    show _ = _
    unfold BSt.prepares; rw [if_neg hroom]; simp only [if_neg hki, hk, if_true, hxs]
  have hnd : R.needs t = (0, 1) := by simp [BSt.needs, hki]
  rw [hnd] at hroom
  obtain ⟨ha, haz, hal, hs, hsz, hsl, n1, n2⟩ := h.view hl ht
  obtain ⟨sb, cap, hv⟩ := h.svShape (by omega)
  obtain ⟨lx, hlx, hxp, hxc, hxz, hxl, m1, m2, m3, m4, m5, hAx⟩ := h.viewSp hl ht hx hv
  obtain ⟨lc, hlc, hcp, hcc, hcz, hcl, k1, k2, k3, k4, k5, hAc⟩ := h.viewSp hl ht hc hv
  have n3 := (h.thr i l t hl ht).at_.ne_row h.sp.row (by decide)
  rw [hv] at n3
  have n3' : sb ≠ l.b := by simpa [Value.ownBlock] using n3
  have HB := (show Hid (BAt own z w L R) from h)
  have HL := (show Hid (L.ths[i]? = some l) from hl)
  have Ht := (show Hid (R.ts[i]? = some t) from ht)
  have HT := (show Hid (At w l.b _ _) from (h.thr i l t hl ht).at_)
  have HA := (show Hid (At w lx.b _ _) from hAx)
  have HLX := (show Hid (L.sps[t.x]? = some lx) from hlx)
  have HR := (show Hid (RoomOk R) from hr)
  have hd : (t.okind == 1) = false := by simp [hki]
  simp only [BThread.cells, BSt.head, hk, hxs, hv, b2i_false] at ha hs
  simp only [BSpot.cells] at hxc hcc
  clear h hl ht hr hnd hv n3 hAx hAc hlx hlc
  have hRoom : Hid (roomTo R.spots R.nodes R.entries R.spots.length = R.room) := rfl
  generalize hrm : R.room = rm at *
  obtain ⟨rn, re⟩ := rm
  dsimp only at hroom
  have hr1 : 0 ≤ rn := by omega
  have hr2 : 1 ≤ re := by omega
  go_enter Tryz.func145, Tryz.ntmps145
  go_wp2_with fail
  refine (BRoom_calls HB.out hn (by omega) HR.out).mono ?_
  rintro e w ⟨rfl, rfl⟩
  rw [hRoom.out]
  go_wp2_with fail
  go_region
  go_wp2_with fail
  go_region
  go_wp2_with fail
  go_end0
  rw [hE.out, BSt.mapSp_set (by simpa [BSt.setTh] using hx)]
  refine ⟨rfl, Goes.here (HB.out.bothCells (x' := { R.sp t.x with opn := upd (R.sp t.x).opn false true }) HL.out Ht.out HLX.out hx ?_ ?_ ?_ rfl rfl rfl rfl rfl rfl rfl rfl)⟩
  · repeat (with_reducible first | refine Fr.setIn (.inl rfl) ?_ _ _ | refine Fr.setIn (.inr rfl) ?_ _ _ | refine Fr.alloc ?_ _ | refine Fr.drewN ?_ _ | refine Fr.drew ?_ | exact Fr.refl _ _)
  · exact (((((HT.out.set 6 _).set 16 _).set 17 _).set 18 _).setOther _ m2 _).drew.drew
  · exact (((((HA.out.setOther ⟨l.b, 6, none⟩ m1 _).setOther ⟨l.b, 16, none⟩ m1 _).setOther ⟨l.b, 17, none⟩ m1 _).setOther ⟨l.b, 18, none⟩ m1 _).set 8 _).drew.drew
end
end Go.Proofs.YtfccelbmacjifaaGreat

namespace Go.Proofs.YtfccelbmacjifaaGreat
open Go.RowKit
theorem BSt.unmake_len : ∀ (l : List Nat) (R : BSt), (R.unmake l).spots.length = R.spots.length
  | [], _ => rfl
  | k :: r, R => by simp only [BSt.unmake, BSt.unmake_len r, BSt.mapSp_len]
theorem BSt.unmake_ts : ∀ (l : List Nat) (R : BSt), (R.unmake l).ts = R.ts ∧ (R.unmake l).kind = R.kind ∧ (R.unmake l).clock = R.clock ∧ (R.unmake l).limit = R.limit
  | [], _ => ⟨rfl, rfl, rfl, rfl⟩
  | k :: r, R => by rw [BSt.unmake]; exact BSt.unmake_ts r _
theorem BSt.unmake_app : ∀ (l : List Nat) (R : BSt) (k : Nat), R.unmake (l ++ [k]) = (R.unmake l).mapSp k fun x => { x with free := true }
  | [], _, _ => rfl
  | _ :: r, R, k => by simp only [List.cons_append, BSt.unmake, BSt.unmake_app r]
theorem BSt.unmake_take {R : BSt} {l : List Nat} {k p : Nat} (h : l[k]? = some p) : R.unmake (l.take (k + 1)) = (R.unmake (l.take k)).mapSp p fun x => { x with free := true } := by
  rw [List.take_add_one, h, Option.toList, BSt.unmake_app]
section
variable {own : Own} {z : Nat} {w : World} {L : BLay} {R : BSt}
set_option maxHeartbeats 2000000 in
set_option maxRecDepth 100000 in
/-- Step 8 in a list: the clock is at its limit. -/
theorem takesL_limit (h : BAt own z w L R) {i : Nat} {l : TLay} {t : BThread} (hl : L.ths[i]? = some l) (ht : R.ts[i]? = some t) (hlim : R.clock = R.limit) (hsd : t.side = false) (hsrc : t.src < R.spots.length) (hw : ∀ p ∈ t.new, p < R.spots.length) (hb : t.new.length ≤ 2) :
    Calls Tryz.prog 146 #[.pointer (some ⟨L.s, 0, none⟩), .pointer (some ⟨l.b, 0, none⟩)] w fun e w' => e = .returned (.tuple #[]) ∧ Goes own z w L (R.takes i t) w' := by
  have hE : Hid (R.takes i t = ((R.unmake t.new).mapSp t.src fun x => { x with opn := upd x.opn false false }).setTh i { t with ans := { err := 8 }, at_ := 12 }) := by
    show _ = _; unfold BSt.takes; rw [if_pos hlim, hsd]
  obtain ⟨ha, haz, hal, hs, hsz, hsl, n1, n2⟩ := h.view hl ht
  have HB := (show Hid (BAt own z w L R) from h)
  have HL := (show Hid (L.ths[i]? = some l) from hl)
  have Ht := (show Hid (R.ts[i]? = some t) from ht)
  have HW := (show Hid (∀ p ∈ t.new, p < R.spots.length) from hw)
  simp only [BThread.cells, BSt.head, hlim] at ha hs
  clear h hl ht hw
  go_enter Tryz.func146, Tryz.ntmps146
  go_wp2_with fail
  go_quiet (fail)
  go_wp2_with fail
  have HBn := (show Hid (BAt own z (w.drewN nq) L R) from HB.out.drewN nq)
  clear ha haz hal hs hsz hsl n1 n2
  go_loopw [4] (fun k wr => ∃ j : Nat, j ≤ t.new.length ∧ k = .int .i64 j ∧ Hid (BAt own z wr L (R.unmake (t.new.take j))) ∧ Hid (FrZ own z w wr)) (fun k _ => t.new.length - (intOf k).toNat)
  case atStart => exact ⟨0, Nat.zero_le _, rfl, HBn, (Fr.refl _ _).drewN _⟩
  case round =>
    obtain ⟨j, hj, rfl, HBj, HF⟩ := hrel
    have hts : (R.unmake (t.new.take j)).ts[i]? = some t := by rw [(BSt.unmake_ts _ _).1]; exact Ht.out
    obtain ⟨ha, haz, hal, hs, hsz, hsl, n1, n2⟩ := HBj.out.view HL.out hts
    have hlen : Hid ((R.unmake (t.new.take j)).spots.length = R.spots.length) := BSt.unmake_len _ _
    obtain ⟨sb, cap, hv⟩ := HBj.out.svShape (by rw [hlen.out]; omega)
    obtain ⟨na, nc, hnv⟩ := ownsRow_slice (HBj.out.thr i l t HL.out hts).new.row
    simp only [BThread.cells, BSt.head, hv, hnv, hlen.out, hsd, b2i_false] at ha hs
    by_cases hlt : j < t.new.length
    · have hp : t.new[j]? = some t.new[j] := List.getElem?_eq_getElem hlt
      have hpl := HW.out _ (List.getElem_mem hlt)
      generalize t.new[j] = p at hp hpl
      have hpl' : p < (R.unmake (t.new.take j)).spots.length := by rw [hlen.out]; exact hpl
      obtain ⟨lk, hlk, hck, hkc, hkz, hkl, m1, m2, m3, m4, m5, hAk⟩ := HBj.out.viewSp HL.out hts hpl' hv
      simp only [BSpot.cells] at hkc
      obtain ⟨wb, wcap, hwv, _⟩ := ownsRow_shape (HBj.out.thr i l t HL.out hts).new.row (by omega)
      have how := (HBj.out.thr i l t HL.out hts).new.row
      rw [hwv] at how hnv
      simp only [Value.slice.injEq, true_and] at hnv
      obtain ⟨rfl, rfl⟩ := hnv
      have hcw : wr.cell? ⟨wb, j, none⟩ = some (.int .i64 p) := ownsRow_cell how (by simp [natCells, hp])
      have HA := (show Hid (At wr lk.b _ _) from hAk)
      have HP := (show Hid (t.new[j]? = some p) from hp)
      have HLK := (show Hid (L.sps[p]? = some lk) from hlk)
      clear hv hAk hts hwv how hp hlk
      go_wp2_with fail
      go_region
      go_wp2
      go_roundw
      case rel =>
        have hpl2 : p < (R.unmake (t.new.take j)).spots.length := by rw [hlen.out]; exact hpl
        refine ⟨j + 1, by omega, by go_num, ?_, ?_⟩
        · show BAt _ _ _ _ _
          rw [BSt.unmake_take HP.out, BSt.mapSp_set hpl2]
          refine HBj.out.spotCells HLK.out hpl2 (by repeat (with_reducible first | refine Fr.set1 ?_ _ _ | refine Fr.alloc ?_ _ | refine Fr.drewN ?_ _ | refine Fr.drew ?_ | exact Fr.refl _ _)) ?_ rfl
          first | exact (HA.out.set 13 _).drew | exact HA.out.drew.set 13 _
        · show FrZ _ _ _ _
          refine FrZ.trans HF.out (Ext.refl _ _) (HBj.out.spotZone HLK.out hpl2 ?_)
          repeat (with_reducible first | refine Fr.set1 ?_ _ _ | refine Fr.alloc ?_ _ | refine Fr.drewN ?_ _ | refine Fr.drew ?_ | exact Fr.refl _ _)
      case measure => simp [intOf]; omega
    · have hje : j = t.new.length := by omega
      subst hje
      have hall : t.new.take t.new.length = t.new := List.take_length
      have hsl' : t.src < (R.unmake (t.new.take t.new.length)).spots.length := by rw [hlen.out]; exact hsrc
      obtain ⟨lk, hlk, hck, hkc, hkz, hkl, m1, m2, m3, m4, m5, hAk⟩ := HBj.out.viewSp HL.out hts hsl' hv
      simp only [BSpot.cells] at hkc
      have HTs := (show Hid ((R.unmake (t.new.take t.new.length)).ts[i]? = some t) from hts)
      have HT := (show Hid (At wr l.b _ _) from (HBj.out.thr i l t HL.out hts).at_)
      have HA := (show Hid (At wr lk.b _ _) from hAk)
      have HLK := (show Hid (L.sps[t.src]? = some lk) from hlk)
      clear hts hv hAk hlk hnv
      go_wp2_with fail
      go_region
      go_wp2_with fail
      (try simp only [Exit.inBlock, Exit.then])
      refine bodyPost_ret (results_none rfl _ _ _) rfl ?_
      have hsl2 : t.src < (R.unmake (t.new.take t.new.length)).spots.length := by rw [hlen.out]; exact hsrc
      have hF1 : Fr (fun k => k = lk.b) wr (wr.setCell ⟨lk.b, 8, none⟩ (.bool false)) := (Fr.refl _ _).set1 _ _
      have hB1 := HBj.out.spotCells (x' := { (R.unmake (t.new.take t.new.length)).sp t.src with opn := upd ((R.unmake (t.new.take t.new.length)).sp t.src).opn false false }) HLK.out hsl2 hF1 (HA.out.set 8 _) rfl
      have hZ1 := FrZ.trans HF.out (Ext.refl _ _) (HBj.out.spotZone HLK.out hsl2 hF1)
      rw [hE.out]
      rw [hall] at hB1 hsl2
      rw [BSt.mapSp_set hsl2]
      refine ⟨rfl, Goes.trans (own1 := own) (L1 := L) (Ext.refl _ _) hZ1 rfl rfl (hB1.goesErr HL.out (t := t) ?_ ?_ ?_ rfl rfl rfl rfl rfl rfl rfl)⟩
      · have := HTs.out; rw [hall] at this; exact this
      · repeat (with_reducible first | refine Fr.set1 ?_ _ _ | refine Fr.alloc ?_ _ | refine Fr.drewN ?_ _ | refine Fr.drew ?_ | exact Fr.refl _ _)
      · exact (((((((HT.out.setOther ⟨lk.b, 8, none⟩ m2 _).set 25 _).set 26 _).set 27 _).set 28 _).set 29 _).set 6 _).drew
end
end Go.Proofs.YtfccelbmacjifaaGreat

namespace Go.Proofs.YtfccelbmacjifaaGreat
open Go.RowKit
theorem Tryz.infoMade : (Tryz.prog.info? 212).map (fun i => (i.zero, i.size, i.bytes)) = some (some (.agg #[.int .i64 0, .int .i64 0, .int .i64 0, .bool false]), 4, 32) := by kernel_rfl
section
variable {own : Own} {z : Nat} {w : World} {L : BLay} {R : BSt}
/-- The log has one more. -/
theorem BAt.pushLog (h : BAt own z w L R) {w1 : World} {m : BMade} {g cap : Nat}
    (ho : w1.ownsRow 0 212 4 (.slice (some ⟨g, 0, none⟩) (R.log.length + 1) cap) (R.log.length + 1) (R.log.flatMap madeCells ++ madeCells m))
    (hF : Fr (fun k => L.lv.ownBlock = some k) w w1) (hge : L.lv.ownBlock = some g ∨ w.heap.size ≤ g) :
    BAt (own.put g z .log) z (w1.setCell ⟨L.s, 7, none⟩ (.slice (some ⟨g, 0, none⟩) (R.log.length + 1) cap)) { L with lv := .slice (some ⟨g, 0, none⟩) (R.log.length + 1) cap } { R with log := R.log ++ [m] } ∧
    Ext own (own.put g z .log) w ∧ FrZ own z w (w1.setCell ⟨L.s, 7, none⟩ (.slice (some ⟨g, 0, none⟩) (R.log.length + 1) cap)) := by
  have hA : At w1 L.s (R.head L) 123 := hF.at h.hd (h.hd.ne_row h.log.row (by decide))
  have hE : Ext own (own.put g z .log) w := Ext.put' (Ext.refl _ _) (by
    rcases hge with hg | hg
    · exact .inl (h.log.tg g hg)
    · exact .inr hg)
  have hf : Fr (fun k => k = L.s ∨ L.lv.ownBlock = some k) w (w1.setCell ⟨L.s, 7, none⟩ (.slice (some ⟨g, 0, none⟩) (R.log.length + 1) cap)) :=
    Fr.setIn (.inl rfl) (hF.mono (fun k _ hk => .inr hk)) _ _
  have hn : ∀ tag, tag ≠ Tag.store → tag ≠ Tag.log → ∀ k, own k = ⟨z, tag⟩ → ¬ (k = L.s ∨ L.lv.ownBlock = some k) := by
    rintro tag hne hne' k hk (rfl | hk')
    · rw [h.hown] at hk; simp at hk; exact hne hk.symm
    · rw [h.log.tg k hk'] at hk; simp at hk; exact hne' hk.symm
  refine ⟨⟨hA.set 7 _, by rw [hE _ h.hd.lt]; exact h.hown, h.sp.fr hf hE (hn _ (by simp) (by simp)), h.slen, ?_, h.th.fr hf hE (hn _ (by simp) (by simp)), h.tlen, ?_, ⟨?_, ?_⟩, h.rd.fr hf hE (hn _ (by simp) (by simp)) (hn _ (by simp) (by simp)) (hn _ (by simp) (by simp))⟩, hE, Fr.mono hf ?_⟩
  · intro i l y hl hy
    exact (h.spot i l y hl hy).fr hf hE (hn _ (by simp) (by simp)) (fun k s => hn _ (by simp) (by simp) k)
  · intro i l t hl ht
    exact (h.thr i l t hl ht).fr hf hE (hn _ (by simp) (by simp)) (fun k s => hn _ (by simp) (by simp) k) (hn _ (by simp) (by simp))
  · have := ownsRow_setOther ho (a := ⟨L.s, 7, none⟩) (hA.ne_row ho (by decide)) (.slice (some ⟨g, 0, none⟩) (R.log.length + 1) cap)
    simpa using this
  · intro k hk; simp [Value.ownBlock] at hk; subst hk; exact Own.put_same _ _ _ _
  · rintro k _ (rfl | hk)
    · rw [h.hown]
    · rw [h.log.tg k hk]
/-- One side of a new spot gets its stamp. -/
theorem BAt.stampSide (h : BAt own z w L R) {p : Nat} {lp : SLay} (hlp : L.sps[p]? = some lp) (hp : p < R.spots.length) (s : Bool) (c : Int) {w' : World} {b : Nat} (hb : w.heap.size ≤ b) (hf : Fr (fun k => k = lp.b) w w')
    (hA : At w' lp.b (({ R.sp p with opn := upd (R.sp p).opn s false, st := upd (R.sp p).st s [c] } : BSpot).cells ⟨lp.b, upd lp.st s (.slice (some ⟨b, 0, none⟩) 1 1)⟩) 130) (hW : At w' b [.int .i64 c] 3) :
    BAt (own.put b z (.st p s)) z w' { L with sps := L.sps.set p ⟨lp.b, upd lp.st s (.slice (some ⟨b, 0, none⟩) 1 1)⟩ } { R with spots := R.spots.set p { R.sp p with opn := upd (R.sp p).opn s false, st := upd (R.sp p).st s [c] } } ∧
    Ext own (own.put b z (.st p s)) w ∧ FrZ own z w w' := by
  have hS := h.spot p lp _ hlp (show R.spots[p]? = some (R.sp p) by simp [BSt.sp, hp])
  have hE : Ext own (own.put b z (.st p s)) w := Ext.put hb _ _
  have hn : ∀ tag, tag ≠ Tag.spot p → ∀ k, own k = ⟨z, tag⟩ → ¬ k = lp.b := by
    rintro tag hne k hk rfl; rw [hS.tg] at hk; simp at hk; exact hne hk.symm
  refine ⟨h.spotSet hlp (FrT.one hf hS.tg (.inl rfl)) hE (st' := upd lp.st s (.slice (some ⟨b, 0, none⟩) 1 1)) ⟨hA, by rw [hE _ hS.at_.lt]; exact hS.tg, ?_⟩, hE, Fr.mono hf (by rintro k _ rfl; rw [hS.tg])⟩
  intro r
  by_cases hr : r = s
  · subst hr
    simp only [upd_same]
    exact Row.lit _ _ _ hW rfl (by simp [maxLen]) (Own.put_same _ _ _ _)
  · simp only [upd_ne _ _ hr]
    exact (hS.st r).fr hf hE (hn _ (by simp))
end

/-- One side. -/
def stampAt (c : Int) (s : Bool) (x : BSpot) : BSpot := if x.opn s then { x with opn := upd x.opn s false, st := upd x.st s [c] } else x
theorem stampOf_eq (c : Int) (x : BSpot) : stampOf c x = stampAt c true (stampAt c false { x with id := c }) := by
  obtain ⟨id, leaf, key, value, now, st, opn, dead, owner, out, free⟩ := x
  cases h0 : opn false <;> cases h1 : opn true <;>
    (simp only [stampOf, stampAt, h0, h1, upd, BSpot.mk.injEq, if_true, Bool.false_eq_true, if_false, Bool.true_eq_false, true_and, and_true]
     try (refine ⟨?_, ?_⟩ <;> funext s <;> cases s <;> simp [h0, h1, upd]))
end Go.Proofs.YtfccelbmacjifaaGreat

