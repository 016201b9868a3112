import Derived.Test.YtfccelbmacjifaaLawNews
namespace Go.Proofs.Ytfccelbmacjifaa
open Go.RowKit

set_option maxHeartbeats 1000000 in
theorem made_no (k t n e l : Int) (w : World) (hok : okCfg k t n e l = false) :
    Calls Try.prog 4 #[cfg k t n e l] w fun r w' => r = .returned (.tuple #[.pointer none, .bool true]) ∧ Fr (fun _ => False) w w' := by
  have HOK : Hid _ := hok
  clear hok
  unfold cfg
  go_enter Try.func4, Try.ntmps4
  go_wp2_with fail
  refine (XNew_no k t n e l _ HOK.out).mono ?_
  rintro r w1 ⟨rfl, hF1⟩
  have hC : At w1 w.heap.size [.int .i64 k, .int .i64 t, .int .i64 n, .int .i64 e, .int .i64 l] 23 := hF1.at (At.new w _ _) (fun h => h)
  have hcc := hC.cell
  have HF1 := (show Hid (Fr _ _ _) from ((Fr.refl _ _).alloc _).trans hF1)
  clear hF1 hC
  go_wp2_with fail
  refine (RNew_no k t n e l _ HOK.out).mono ?_
  rintro r w2 ⟨rfl, hF2⟩
  have HF2 := (show Hid (Fr _ _ _) from HF1.out.trans hF2)
  clear hF2 HF1
  go_wp2
  go_ret2
  exact ⟨rfl, HF2.out⟩

set_option maxHeartbeats 1000000 in
theorem made_yes (k t n e l : Int) (w : World) (hok : okCfg k t n e l = true) :
    Calls Try.prog 4 #[cfg k t n e l] w fun r w' => ∃ (wb : Nat) (L : XLay) (M : RLay) (b : Nat), r = .returned (.tuple #[.pointer (some ⟨wb, 0, none⟩), .bool true]) ∧
      At w' wb (worldCells L.s M.s k t n e l Sl.nil Sl.nil Sl.nil) 40 ∧ XAt w' L (freshX k t n e l) ∧ RAt w' M (freshR k t n e l b) ∧ RMore w' M b ∧ Fr (fun _ => False) w w' ∧
      (∀ c, L.own c → w.heap.size ≤ c) ∧ (∀ c, M.own c → w.heap.size ≤ c ∧ ¬ L.own c) ∧ w.heap.size ≤ wb := by
  have HOK : Hid _ := hok
  clear hok
  unfold cfg
  go_enter Try.func4, Try.ntmps4
  go_wp2_with fail
  refine (XNew_yes k t n e l _ HOK.out).mono ?_
  rintro r w1 ⟨L, rfl, hX, hF1, hL⟩
  have hC : At w1 w.heap.size [.int .i64 k, .int .i64 t, .int .i64 n, .int .i64 e, .int .i64 l] 23 := hF1.at (At.new w _ _) (fun h => h)
  have hcc := hC.cell
  have HC := (show Hid (At _ _ _ _) from hC)
  have HF1 := (show Hid (Fr _ _ _) from ((Fr.refl _ _).alloc _).trans hF1)
  have HX := (show Hid (XAt _ _ _) from hX)
  simp only [World.size_alloc] at hL
  have HL := (show Hid (∀ b, L.own b → w.heap.size + 1 ≤ b) from hL)
  clear hF1 hC hX hL
  go_wp2_with fail
  refine (RNew_yes k t n e l _ HOK.out).mono ?_
  rintro r w2 ⟨M, b, rfl, hR, hM, hF2, hMn, hbn⟩
  have hcc := (hF2.at HC.out (fun h => h)).cell
  have HF2 := (show Hid (Fr _ _ _) from HF1.out.trans hF2)
  have HX2 := (show Hid (XAt w2 _ _) from HX.out.fr hF2 (fun _ _ h => h))
  have HR := (show Hid (RAt _ _ _) from hR)
  have HM := (show Hid (RMore _ _ _) from hM)
  have HN := (show Hid (∀ c, M.own c → w1.heap.size ≤ c) from hMn)
  have HLt : Hid (∀ c, L.own c → c < w1.heap.size) := by
    intro c hc
    rcases hc with rfl | rfl | rfl | rfl | rfl | hc
    · exact HX.out.hd.lt
    · exact HX.out.mem.hd.lt
    · exact (HX.out.mem.nodes.lt _ rfl).2
    · exact (HX.out.mem.ents.lt _ rfl).2
    · exact (HX.out.thr.lt _ rfl).2
    · obtain ⟨i, hi⟩ := List.getElem?_of_mem hc
      have hil : i < (freshX k t n e l).ts.length := by rw [← HX.out.len]; exact (List.getElem?_eq_some_iff.1 hi).1
      exact (HX.out.wk i _ _ hi (List.getElem?_eq_getElem hil)).lt
  have hs1 := HF1.out.size
  have hs2 := hF2.size
  clear hF2 HF1 HC hR hM HX hMn
  go_wp2
  go_ret2
  refine ⟨w2.heap.size, L, M, b, rfl, At.new w2 (worldCells L.s M.s k t n e l Sl.nil Sl.nil Sl.nil) _, HX2.out.fr ((Fr.refl _ _).alloc _) (fun _ _ h => h), HR.out.fr ((Fr.refl _ _).alloc _) (fun _ _ h => h), ?_, HF2.out.alloc _, ?_, ?_, by omega⟩
  · obtain ⟨⟨r, h1, h2⟩, h3, h4⟩ := HM.out
    exact ⟨⟨r, h1, h2.alloc _⟩, h3, h4.alloc _⟩
  · intro c hc
    have := HL.out c hc
    omega
  · intro c hc
    have := HN.out c hc
    refine ⟨by omega, fun hl => ?_⟩
    have := HLt.out c hl
    omega

set_option maxHeartbeats 1000000 in
theorem News_any (k t n e l : Int) (w : World) :
    Calls Try.prog 3 #[cfg k t n e l] w fun r w' => r = .returned (.bool true) ∧ Fr (fun _ => False) w w' := by
  cases hok : okCfg k t n e l
  · have HOK : Hid _ := hok
    clear hok
    unfold cfg
    go_enter Try.func3, Try.ntmps3
    go_wp2_with fail
    refine (made_no k t n e l _ HOK.out).mono ?_
    rintro r w1 ⟨rfl, hF1⟩
    have HF1 := (show Hid (Fr _ _ _) from ((Fr.refl _ _).alloc _).trans hF1)
    clear hF1
    go_wp2
    go_ret
    exact ⟨rfl, HF1.out⟩
  · have HOK : Hid _ := hok
    clear hok
    unfold cfg
    go_enter Try.func3, Try.ntmps3
    go_wp2_with fail
    refine (made_yes k t n e l _ HOK.out).mono ?_
    rintro r w1 ⟨wb, L, M, b, rfl, hW, hX, hR, hM, hF1, _, _, _⟩
    have HF1 := (show Hid (Fr _ _ _) from ((Fr.refl _ _).alloc _).trans hF1)
    have HW := (show Hid (At _ _ _ _) from hW)
    have HX := (show Hid (XAt _ _ _) from hX)
    have HR := (show Hid (RAt _ _ _) from hR)
    clear hF1 hW hX hR hM
    go_wp2_with fail
    refine (last_fresh HOK.out HW.out HX.out HR.out).mono ?_
    rintro r w2 ⟨rfl, hF2⟩
    have HF2 := (show Hid (Fr _ _ _) from HF1.out.trans hF2)
    clear hF2
    go_wp2
    go_ret
    exact ⟨rfl, HF2.out⟩
end Go.Proofs.Ytfccelbmacjifaa
