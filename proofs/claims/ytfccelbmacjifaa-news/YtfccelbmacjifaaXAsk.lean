import Derived.Test.YtfccelbmacjifaaRNew
namespace Go.Proofs.Ytfccelbmacjifaa
open Go.RowKit
section
variable {w : World} {L : XLay} {X : XSt}

set_option maxHeartbeats 400000 in
theorem hasThread_calls (h : XAt w L X) (i : Int) :
    Calls Try.prog 28 #[.pointer (some ⟨L.s, 0, none⟩), .int .i64 i] w fun e w' => e = .returned (.bool (isIn i 0 (X.ts.length - 1))) ∧ w' = w := by
  have hc := h.hd.cell
  have hs := h.few
  clear h
  by_cases h1 : 0 ≤ i
  · by_cases h2 : i < X.ts.length
    · go_enter Try.func28, Try.ntmps28
      go_wp2
      go_ret
      exact ⟨ret_bool (isIn_true (by omega)).symm, rfl⟩
    · go_enter Try.func28, Try.ntmps28
      go_wp2
      go_ret
      exact ⟨ret_bool (isIn_false (by omega)).symm, rfl⟩
  · go_enter Try.func28, Try.ntmps28
    go_wp2
    go_ret
    exact ⟨ret_bool (isIn_false (by omega)).symm, rfl⟩

def ans2 (a : List Value) (e : Int) : Value := .tuple #[.agg a.toArray, .int .i64 e]

set_option maxHeartbeats 400000 in
theorem XAnswer_none (h : XAt w L X) (i : Int) (hi : ¬ (0 ≤ i ∧ i ≤ X.ts.length - 1)) :
    Calls Try.prog 16 #[.pointer (some ⟨L.s, 0, none⟩), .int .i64 i] w fun e w' => e = .returned (ans2 VAns.zero.cells 2) ∧ Fr (fun _ => False) w w' := by
  have hX := (show Hid (XAt w L X) from h)
  have hI : Hid (isIn i 0 (X.ts.length - 1) = false) := isIn_false hi
  have hl := h.hd.lt
  clear h hi
  go_enter Try.func16, Try.ntmps16
  go_wp2_with fail
  refine (hasThread_calls (hX.out.fr ((Fr.refl _ _).alloc _) (fun _ _ h => h)) i).mono ?_
  rintro e w' ⟨rfl, rfl⟩
  rw [hI.out]
  go_wp2
  exact bodyPost_ret (v := ans2 VAns.zero.cells 2) (by simp [results, Try.results16, go_sem, ans2, VAns.zero, VAns.cells]) rfl ⟨rfl, (Fr.refl _ _).alloc _⟩

set_option maxHeartbeats 400000 in
theorem XAnswer_idle (h : XAt w L X) (i : Nat) (t : VWorker) (ht : X.ts[i]? = some t) (hE : t.hasEnded = false) :
    Calls Try.prog 16 #[.pointer (some ⟨L.s, 0, none⟩), .int .i64 i] w fun e w' => e = .returned (ans2 VAns.zero.cells 4) ∧ Fr (fun _ => False) w w' := by
  have hlt := (List.getElem?_eq_some_iff.1 ht).1
  have hX := (show Hid (XAt w L X) from h)
  have hI : Hid (isIn i 0 (X.ts.length - 1) = true) := isIn_true (by omega)
  have hl := h.hd.lt
  have hf := h.few
  have htb := (h.thr.lt L.tb rfl).2
  obtain ⟨b, hb, hcb, hA⟩ := h.thread ht
  have hca := hA.cell
  have hla := hA.lt
  have hc := h.hd.cell
  simp only [VWorker.cells, hE] at hca
  clear h ht hA hb
  go_enter Try.func16, Try.ntmps16
  go_wp2_with fail
  refine (hasThread_calls (hX.out.fr ((Fr.refl _ _).alloc _) (fun _ _ h => h)) i).mono ?_
  rintro e w' ⟨rfl, rfl⟩
  rw [hI.out]
  go_wp2
  exact bodyPost_ret (v := ans2 VAns.zero.cells 4) (by simp [results, Try.results16, go_sem, ans2, VAns.zero, VAns.cells]) rfl ⟨rfl, (Fr.refl _ _).alloc _⟩

set_option maxHeartbeats 400000 in
theorem XRoom_calls (h : XAt w L X) :
    Calls Try.prog 20 #[.pointer (some ⟨L.s, 0, none⟩)] w fun e w' => e = .returned (.tuple #[.int .i64 X.mem.room.1, .int .i64 X.mem.room.2]) ∧ w' = w := by
  have hX := (show Hid (XAt w L X) from h)
  have hc := h.hd.cell
  clear h
  go_enter Try.func20, Try.ntmps20
  go_wp2_with fail
  refine (MRoom_calls hX.out.mem).mono ?_
  rintro e w' ⟨rfl, rfl⟩
  go_wp2
  go_ret2
  exact ⟨rfl, rfl⟩

set_option maxHeartbeats 400000 in
theorem XClock_calls (h : XAt w L X) :
    Calls Try.prog 22 #[.pointer (some ⟨L.s, 0, none⟩)] w fun e w' => e = .returned (.int .i64 X.clock) ∧ w' = w := by
  have hc := h.hd.cell
  clear h
  go_enter Try.func22, Try.ntmps22
  go_wp2
  go_ret
  exact ⟨rfl, rfl⟩
end

section
variable {w : World} {L : RLay} {R : RSt}
set_option maxHeartbeats 400000 in
theorem RAnswer_none (h : RAt w L R) (i : Int) (ht : 1 ≤ R.threads ∧ R.threads ≤ 8) (hi : ¬ (0 ≤ i ∧ i ≤ R.threads - 1)) :
    Calls Try.prog 17 #[.pointer (some ⟨L.s, 0, none⟩), .int .i64 i] w fun e w' => e = .returned (ans2 RAns.zero.cells 2) ∧ Fr (fun _ => False) w w' := by
  have hI : Hid (isIn i 0 (R.threads - 1) = false) := isIn_false hi
  have hl := h.hd.lt
  have hc := h.hd.cell
  obtain ⟨t0, t1⟩ := ht
  clear h hi
  go_enter Try.func17, Try.ntmps17
  go_wp2_with fail
  refine (between_calls i 0 (R.threads - 1) _).mono ?_
  rintro e w' ⟨rfl, rfl⟩
  rw [hI.out]
  go_wp2
  exact bodyPost_ret (v := ans2 RAns.zero.cells 2) (by simp [results, Try.results17, go_sem, ans2, RAns.zero, RAns.cells]) rfl ⟨rfl, (Fr.refl _ _).alloc _⟩

set_option maxHeartbeats 400000 in
theorem RAnswer_idle (h : RAt w L R) (i : Nat) (t : RThread) (ht : R.ts[i]? = some t) (hn : R.threads = R.ts.length) (h8 : R.ts.length ≤ 8) (hE : t.has = false) :
    Calls Try.prog 17 #[.pointer (some ⟨L.s, 0, none⟩), .int .i64 i] w fun e w' => e = .returned (ans2 RAns.zero.cells 4) ∧ Fr (fun _ => False) w w' := by
  have hlt := (List.getElem?_eq_some_iff.1 ht).1
  have hI : Hid (isIn i 0 (R.threads - 1) = true) := isIn_true (by omega)
  have hl := h.hd.lt
  have hc := h.hd.cell
  obtain ⟨b, tb, cap, hb, hv, hcb, hA⟩ := h.thread ht
  have htb : tb < w.heap.size := by
    have := h.th
    rw [hv] at this
    exact (this.lt tb rfl).2
  rw [hv] at hc
  have hca := hA.cell
  have hla := hA.lt
  simp only [RThread.cells, hE] at hca
  have t0 : 1 ≤ R.threads := by omega
  have t1 : R.threads ≤ 8 := by omega
  have hnH : Hid (R.threads = R.ts.length) := hn
  clear h ht hA hb hv hn
  go_enter Try.func17, Try.ntmps17
  go_wp2_with fail
  refine (between_calls i 0 (R.threads - 1) _).mono ?_
  rintro e w' ⟨rfl, rfl⟩
  rw [hI.out]
  go_wp2
  exact bodyPost_ret (v := ans2 RAns.zero.cells 4) (by simp [results, Try.results17, go_sem, ans2, RAns.zero, RAns.cells]) rfl ⟨rfl, (Fr.refl _ _).alloc _⟩
end
end Go.Proofs.Ytfccelbmacjifaa
