import Derived.Test.YtfccelbmacjifaaXAsk
namespace Go.Proofs.Ytfccelbmacjifaa
open Go.RowKit
def sideRoomN (x : RSpot) (e : Int) : Nat → Int
  | 0 => e
  | 1 => e - x.st0.n - b2i x.open0
  | _ => e - x.st0.n - b2i x.open0 - x.st1.n - b2i x.open1
def roomStepN (i : Nat) (x : RSpot) (p : Int × Int) : Int × Int :=
  if x.free then p else ((if 1 < i then p.1 - 1 else p.1), sideRoomN x p.2 2)
def roomToN (l : List RSpot) (n e : Int) : Nat → Int × Int
  | 0 => (n, e)
  | k + 1 => match l[k]? with
    | some x => roomStepN k x (roomToN l n e k)
    | none => roomToN l n e k

section
variable {w : World} {L : RLay} {R : RSt}
set_option maxHeartbeats 2000000 in
theorem RRoom_calls (h : RAt w L R) (hn : 1 ≤ R.spots.length) (hl : R.spots.length ≤ 2 ^ 42)
    (hlow : ∀ k, k ≤ R.spots.length → -(2 ^ 60) ≤ (roomToN R.spots R.nodes R.entries k).1 ∧ (roomToN R.spots R.nodes R.entries k).1 ≤ 2 ^ 60 ∧ -(2 ^ 60) ≤ (roomToN R.spots R.nodes R.entries k).2 ∧ (roomToN R.spots R.nodes R.entries k).2 ≤ 2 ^ 60) :
    Calls Try.prog 21 #[.pointer (some ⟨L.s, 0, none⟩)] w fun e w' =>
      e = .returned (.tuple #[.int .i64 (roomToN R.spots R.nodes R.entries R.spots.length).1, .int .i64 (roomToN R.spots R.nodes R.entries R.spots.length).2]) ∧ w' = w := by
  have hc := h.hd.cell
  obtain ⟨sb, cap, hv, _⟩ := ownsRow_shape h.sp (by omega)
  rw [hv] at hc
  have HR := (show Hid (RAt w L R) from h)
  have hLow := (show Hid (∀ k, k ≤ R.spots.length → _) from hlow)
  have hV := (show Hid (L.sv = _) from hv)
  clear h hlow hv
  go_enter Try.func21, Try.ntmps21
  go_wp2
  go_loop [4, 5, 6, 7, 8] (fun a b i _ _ => ∃ k : Nat, k ≤ R.spots.length ∧ i = .int .i64 k ∧ a = .int .i64 (roomToN R.spots R.nodes R.entries k).1 ∧ b = .int .i64 (roomToN R.spots R.nodes R.entries k).2) (fun _ _ i _ _ => R.spots.length - (intOf i).toNat)
  case atStart => exact ⟨0, Nat.zero_le _, rfl, rfl, rfl⟩
  case round =>
    obtain ⟨k, hk, rfl, rfl, rfl⟩ := hrel
    by_cases hlt : k < R.spots.length
    · have hx := List.getElem?_eq_getElem hlt
      generalize R.spots[k] = x at hx
      have hnext : Hid (roomToN R.spots R.nodes R.entries (k + 1) = roomStepN k x (roomToN R.spots R.nodes R.entries k)) := by show _ = _; simp [roomToN, hx]
      have h0 := hLow.out k (by omega)
      have h1 := hLow.out (k + 1) (by omega)
      rw [hnext.out] at h1
      generalize roomToN R.spots R.nodes R.entries k = p at *
      obtain ⟨pn, pe⟩ := p
      dsimp only at h0 h1
      obtain ⟨b, sb', cap', hb, hv', hcb, hA⟩ := HR.out.spotAt hx
      rw [hV.out] at hv'
      simp only [Value.slice.injEq, Option.some.injEq, Addr.mk.injEq, and_true, true_and] at hv'
      obtain ⟨rfl, rfl⟩ := hv'
      have hca := hA.cell
      simp only [RSpot.cells] at hca
      clear hb hA hx
      cases hfr : x.free
      · rw [hfr] at hca
        have e1 : Hid (roomStepN k x (pn, pe) = ((if 1 < k then pn - 1 else pn), sideRoomN x pe 2)) := by show _ = _; simp [roomStepN, hfr]
        rw [e1.out] at h1
        obtain ⟨h11, h12, h13, h14⟩ := h1
        obtain ⟨h01, h02, h03, h04⟩ := h0
        simp only [sideRoomN] at h13 h14
        have hb0 : b2i x.open0 = 0 ∨ b2i x.open0 = 1 := by cases x.open0 <;> simp [b2i]
        have hb1 : b2i x.open1 = 0 ∨ b2i x.open1 = 1 := by cases x.open1 <;> simp [b2i]
        have s0 : Hid (sideRoomN x pe 1 = pe - x.st0.n - b2i x.open0) := rfl
        have s1 : Hid (sideRoomN x pe 2 = pe - x.st0.n - b2i x.open0 - x.st1.n - b2i x.open1) := rfl
        have hI : Hid ((if 1 < k then pn - 1 else pn) = pn - 1 ∨ ¬ 1 < k) := by
          by_cases h : 1 < k
          · left; simp [h]
          · right; exact h
        have hp : -(2 ^ 60) ≤ pn - 1 ∨ ¬ 1 < k := by
          by_cases h : 1 < k
          · left; simp only [h, if_true] at h11; exact h11
          · right; exact h
        clear h11 h12
        have e2 : Hid (∀ q, (1 < k → q = pn - 1) → (¬ 1 < k → q = pn) → roomToN R.spots R.nodes R.entries (k + 1) = (q, sideRoomN x pe 2)) := by
          intro q q1 q2
          rw [hnext.out, e1.out]
          by_cases h : 1 < k
          · simp [h, q1 h]
          · simp [h, q2 h]
        clear hI e1 hnext
        by_cases h1k : 1 < k
        · have q1 : -(2 ^ 60) ≤ pn - 1 := by omega
          have e3 : Hid (roomToN R.spots R.nodes R.entries (k + 1) = (pn - 1, sideRoomN x pe 2)) := e2.out _ (fun _ => rfl) (fun h => absurd h1k h)
          clear hp e2
          go_wp2_with fail
          go_loop [5, 8] (fun e s => ∃ j : Nat, j ≤ 2 ∧ s = .int .i64 j ∧ e = .int .i64 (sideRoomN x pe j)) (fun _ s => 2 - (intOf s).toNat)
          case atStart => exact ⟨0, by omega, rfl, rfl⟩
          case round =>
            obtain ⟨j, hj, rfl, rfl⟩ := hrel
            rcases (show j = 0 ∨ j = 1 ∨ j = 2 by omega) with rfl | rfl | rfl
            · cases ho : x.open0
              all_goals
                have s0' := s0.out
                simp only [ho, b2i_true, b2i_false] at hca s0' h13 h14
                have s0 : Hid _ := s0'
                clear s0'
                have z : Hid (sideRoomN x pe 0 = pe) := rfl
                rw [z.out]
                go_wp2
                go_round
                case rel => exact ⟨1, by omega, rfl, by rw [s0.out]; first | done | go_num⟩
                case measure => simp [intOf]
            · rw [s0.out]
              cases ho : x.open1
              all_goals
                have s1' := s1.out
                simp only [ho, b2i_true, b2i_false] at hca s1' h13 h14
                have s1 : Hid _ := s1'
                clear s1'
                go_wp2
                go_round
                case rel => exact ⟨2, by omega, rfl, by rw [s1.out]; first | done | go_num⟩
                case measure => simp [intOf]
            · go_wp2
              go_round
              case rel => exact ⟨k + 1, by omega, by go_num, by rw [e3.out], by rw [e3.out]⟩
              case measure => simp [intOf]; omega
        · have e3 : Hid (roomToN R.spots R.nodes R.entries (k + 1) = (pn, sideRoomN x pe 2)) := e2.out _ (fun h => absurd h h1k) (fun _ => rfl)
          clear hp e2
          go_wp2_with fail
          go_loop [5, 8] (fun e s => ∃ j : Nat, j ≤ 2 ∧ s = .int .i64 j ∧ e = .int .i64 (sideRoomN x pe j)) (fun _ s => 2 - (intOf s).toNat)
          case atStart => exact ⟨0, by omega, rfl, rfl⟩
          case round =>
            obtain ⟨j, hj, rfl, rfl⟩ := hrel
            rcases (show j = 0 ∨ j = 1 ∨ j = 2 by omega) with rfl | rfl | rfl
            · cases ho : x.open0
              all_goals
                have s0' := s0.out
                simp only [ho, b2i_true, b2i_false] at hca s0' h13 h14
                have s0 : Hid _ := s0'
                clear s0'
                have z : Hid (sideRoomN x pe 0 = pe) := rfl
                rw [z.out]
                go_wp2
                go_round
                case rel => exact ⟨1, by omega, rfl, by rw [s0.out]; first | done | go_num⟩
                case measure => simp [intOf]
            · rw [s0.out]
              cases ho : x.open1
              all_goals
                have s1' := s1.out
                simp only [ho, b2i_true, b2i_false] at hca s1' h13 h14
                have s1 : Hid _ := s1'
                clear s1'
                go_wp2
                go_round
                case rel => exact ⟨2, by omega, rfl, by rw [s1.out]; first | done | go_num⟩
                case measure => simp [intOf]
            · go_wp2
              go_round
              case rel => exact ⟨k + 1, by omega, by go_num, by rw [e3.out], by rw [e3.out]⟩
              case measure => simp [intOf]; omega
      · rw [hfr] at hca
        have e1 : Hid (roomStepN k x (pn, pe) = (pn, pe)) := by show _ = _; simp [roomStepN, hfr]
        clear h1 h0
        go_wp2
        go_round
        case rel => exact ⟨k + 1, by omega, by go_num, by rw [hnext.out, e1.out], by rw [hnext.out, e1.out]⟩
        case measure => simp [intOf]; omega
    · have hk' : k = R.spots.length := by omega
      subst hk'
      go_wp2
      go_ret2
      exact ⟨rfl, rfl⟩
end
end Go.Proofs.Ytfccelbmacjifaa
