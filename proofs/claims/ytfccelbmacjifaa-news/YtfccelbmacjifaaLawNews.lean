import Derived.Test.YtfccelbmacjifaaLaw0
namespace Go.Proofs.Ytfccelbmacjifaa
open Go.RowKit
section
variable {w : World} {wb x y : Nat} {k t n e l : Int}

set_option maxHeartbeats 1000000 in
theorem looks_none (hW : At w wb (worldCells x y k t n e l Sl.nil Sl.nil Sl.nil) 40) :
    Calls Try.prog 11 #[.pointer (some ⟨wb, 0, none⟩)] w fun r w' => r = .returned (.bool true) ∧ w' = w := by
  have hc := hW.cell
  simp only [worldCells, Sl.nil] at hc
  clear hW
  go_enter Try.func11, Try.ntmps11
  go_wp2_with fail
  refine wp_loop_rounds 1 ?_
  rw [rounds_succ]
  go_wp2_with fail
  refine wp_loop_rounds 1 ?_
  rw [rounds_succ]
  go_wp2_with fail
  refine wp_loop_rounds 1 ?_
  rw [rounds_succ]
  go_wp2
  go_ret
  exact ⟨rfl, rfl⟩

set_option maxHeartbeats 1000000 in
theorem room_same {o p g : Sl} (hW : At w wb (worldCells x y k t n e l o p g) 40) (a b : Int)
    (hx : Calls Try.prog 20 #[.pointer (some ⟨x, 0, none⟩)] w fun r w' => r = .returned (.tuple #[.int .i64 a, .int .i64 b]) ∧ w' = w)
    (hy : Calls Try.prog 21 #[.pointer (some ⟨y, 0, none⟩)] w fun r w' => r = .returned (.tuple #[.int .i64 a, .int .i64 b]) ∧ w' = w) :
    Calls Try.prog 9 #[.pointer (some ⟨wb, 0, none⟩)] w fun r w' => r = .returned (.bool true) ∧ w' = w := by
  have hc := hW.cell
  simp only [worldCells] at hc
  have HX := (show Hid (Calls _ _ _ _ _) from hx)
  have HY := (show Hid (Calls _ _ _ _ _) from hy)
  have h1 : (a == a) = true := by simp
  have h2 : (b == b) = true := by simp
  clear hW hx hy
  go_enter Try.func9, Try.ntmps9
  go_wp2_with fail
  refine Calls.mono HX.out ?_
  rintro r w' ⟨rfl, rfl⟩
  go_wp2_with fail
  refine Calls.mono HY.out ?_
  rintro r w' ⟨rfl, rfl⟩
  go_wp2
  go_ret
  exact ⟨rfl, rfl⟩

set_option maxHeartbeats 1000000 in
theorem clock_same {o p g : Sl} (hW : At w wb (worldCells x y k t n e l o p g) 40) (c : Int)
    (hx : Calls Try.prog 22 #[.pointer (some ⟨x, 0, none⟩)] w fun r w' => r = .returned (.int .i64 c) ∧ w' = w) {ys : List Value} (hy : At w y ys 71) (hyc : ys[5]? = some (.int .i64 c)) :
    Calls Try.prog 10 #[.pointer (some ⟨wb, 0, none⟩)] w fun r w' => r = .returned (.bool true) ∧ w' = w := by
  have hc := hW.cell
  simp only [worldCells] at hc
  have HX := (show Hid (Calls _ _ _ _ _) from hx)
  have h5 : w.cell? ⟨y, 5, none⟩ = some (.int .i64 c) := by rw [hy.cell, hyc]
  have h1 : (c == c) = true := by simp
  clear hW hx hy hyc
  go_enter Try.func10, Try.ntmps10
  go_wp2_with fail
  refine Calls.mono HX.out ?_
  rintro r w' ⟨rfl, rfl⟩
  go_wp2
  go_ret
  exact ⟨rfl, rfl⟩
end

section
variable {w : World} {wb : Nat} {k t n e l : Int} {L : XLay} {M : RLay} {b : Nat}

theorem freshX_ts (k n e l : Int) (t : Nat) : (freshX k t n e l).ts.length = t := by simp [freshX, freshTs_len]

/-- Answers at a new store. -/
theorem answers_fresh (hok : okCfg k t n e l = true) (hW : At w wb (worldCells L.s M.s k t n e l Sl.nil Sl.nil Sl.nil) 40) (hX : XAt w L (freshX k t n e l)) (hR : RAt w M (freshR k t n e l b)) (i : Int) :
    Calls Try.prog 8 #[.pointer (some ⟨wb, 0, none⟩), .int .i64 i] w fun r w' => r = .returned (.bool true) ∧ Fr (fun _ => False) w w' := by
  obtain ⟨_, ⟨t0, t1⟩, _⟩ := okCfg_parts hok
  obtain ⟨t, rfl⟩ := Int.eq_ofNat_of_zero_le (show 0 ≤ t by omega)
  have hlen := freshX_ts k n e l t
  by_cases hi : 0 ≤ i ∧ i ≤ t - 1
  · obtain ⟨i, rfl⟩ := Int.eq_ofNat_of_zero_le hi.1
    have hit : i < t := by omega
    have hx : (freshX k t n e l).ts[i]? = some (VWorker.new i) := by
      simp [freshX, freshTs, hit]
    have hr : (freshR k t n e l b).ts[i]? = some RThread.new0 := by
      simp [freshR, hit]
    refine answers_nil hW VAns.zero 4 i ?_ ?_
    · intro w' hF
      exact XAnswer_idle (hX.fr hF (fun _ _ h => h)) i _ hx rfl
    · intro w' hF
      exact RAnswer_idle (hR.fr hF (fun _ _ h => h)) i _ hr (by simp [freshR]) (by simp [freshR]; omega) rfl
  · refine answers_nil hW VAns.zero 2 i ?_ ?_
    · intro w' hF
      exact XAnswer_none (hX.fr hF (fun _ _ h => h)) i (by rw [hlen]; exact hi)
    · intro w' hF
      exact RAnswer_none (hR.fr hF (fun _ _ h => h)) i ⟨t0, t1⟩ hi

set_option maxHeartbeats 1000000 in
theorem last_fresh (hok : okCfg k t n e l = true) (hW : At w wb (worldCells L.s M.s k t n e l Sl.nil Sl.nil Sl.nil) 40) (hX : XAt w L (freshX k t n e l)) (hR : RAt w M (freshR k t n e l b)) :
    Calls Try.prog 5 #[.pointer (some ⟨wb, 0, none⟩)] w fun r w' => r = .returned (.bool true) ∧ Fr (fun _ => False) w w' := by
  obtain ⟨_, ⟨t0, t1⟩, ⟨n0, n1⟩, ⟨e0, e1⟩, _⟩ := okCfg_parts hok
  have HOK : Hid _ := hok
  have HW := (show Hid (At w wb _ _) from hW)
  have HX := (show Hid (XAt w L _) from hX)
  have HR := (show Hid (RAt w M _) from hR)
  clear hW hX hR hok
  go_enter Try.func5, Try.ntmps5
  go_wp2
  go_loopw [3, 4] (fun i _ wr => ∃ j : Nat, (j : Int) ≤ t + 2 ∧ i = .int .i64 (j - 1) ∧ Hid (Fr (fun _ => False) w wr)) (fun i _ _ => (t + 2 - (intOf i + 1)).toNat)
  case atStart => exact ⟨0, by omega, rfl, Fr.refl _ _⟩
  case round =>
    obtain ⟨j, hj, rfl, HF⟩ := hrel
    have hW : Hid (At wr wb _ _) := HF.out.at HW.out (fun h => h)
    have hc := hW.out.cell
    simp only [worldCells] at hc
    have hX : Hid (XAt wr L _) := HX.out.fr HF.out (fun _ _ h => h)
    have hR : Hid (RAt wr M _) := HR.out.fr HF.out (fun _ _ h => h)
    by_cases hlt : (j : Int) < t + 2
    · go_wp2_with fail
      refine (answers_fresh HOK.out hW.out hX.out hR.out _).mono ?_
      rintro r w1 ⟨rfl, hF1⟩
      have HF1 := (show Hid (Fr _ _ _) from HF.out.trans hF1)
      clear hF1
      go_wp2
      go_roundw
      case rel => exact ⟨j + 1, by omega, by go_num, HF1⟩
      case measure => simp [intOf]; omega
    · go_wp2_with fail
      have hxr := XRoom_calls hX.out
      have hyr := RRoom_calls hR.out (by simp [freshR]) (by simp [freshR]) (by
        intro q hq
        simp only [freshR, List.length_cons, List.length_nil] at hq
        rcases (show q = 0 ∨ q = 1 ∨ q = 2 by omega) with rfl | rfl | rfl
        all_goals
          simp [freshR, roomToN, roomStepN, anchorSpot, endSpot, sideRoomN, b2i, Sl.nil]
          omega)
      have ea : (freshX k t n e l).mem.room = (n, e - 1) := by
        have e1 : e.toNat = (e.toNat - 1) + 1 := by omega
        simp only [freshX]
        rw [e1, freshMem_room]
        exact Prod.ext (by simp; omega) (by simp; omega)
      have ec : (roomToN (freshR k t n e l b).spots (freshR k t n e l b).nodes (freshR k t n e l b).entries (freshR k t n e l b).spots.length) = (n, e - 1) := by
        simp [freshR, roomToN, roomStepN, anchorSpot, endSpot, sideRoomN, b2i, Sl.nil]
      rw [ea] at hxr
      rw [ec] at hyr
      refine (room_same hW.out n (e - 1) hxr hyr).mono ?_
      rintro r w1 ⟨rfl, rfl⟩
      clear hxr hyr ea ec
      go_wp2_with fail
      refine (clock_same hW.out 0 (XClock_calls hX.out) hR.out.hd rfl).mono ?_
      rintro r w1 ⟨rfl, rfl⟩
      go_wp2_with fail
      refine (looks_none hW.out).mono ?_
      rintro r w1 ⟨rfl, rfl⟩
      go_wp2
      go_ret
      exact ⟨rfl, HF.out⟩
end
end Go.Proofs.Ytfccelbmacjifaa
