import Derived.Test.YtjadidjpfdjacaaData
import Derived.WalkSpells
namespace Go.Proofs.Ytjadidjpfdjacaa
open Go.RowKit

section
variable {w : World} {m nb ncap eb ecap : Nat} {ns : List PNode} {es : List PEntry}

set_option maxHeartbeats 400000 in
theorem freeEntry_calls (h : MemAt w m nb ncap eb ecap ns es) :
    Calls Try.prog 80 #[.pointer (some ⟨m, 0, none⟩)] w fun e w' => e = .returned (.int .i64 (find (fun x => !x.used) es 0)) ∧ w' = w := by
  have hc := h.hd.cell
  have hs := h.esmall
  have H : Hid (MemAt w m nb ncap eb ecap ns es) := h
  clear h
  go_enter Try.func80, Try.ntmps80
  go_wp2
  go_loop [3, 9] (fun _ i => ∃ k : Nat, k ≤ es.length ∧ i = .int .i64 k ∧ Hid (∀ j, j < k → ∀ x, es[j]? = some x → (!x.used) = false)) (fun _ i => es.length - (intOf i).toNat)
  case atStart => exact ⟨0, Nat.zero_le _, rfl, fun j hj => by omega⟩
  case round =>
    obtain ⟨k, hk, rfl, hall⟩ := hrel
    by_cases hlt : k < es.length
    · have hx : Hid (es[k]? = some es[k]) := List.getElem?_eq_getElem hlt
      generalize es[k] = x at hx
      have c0 := H.out.ent hx.out (j := 0) (u := .bool x.used) rfl
      rw [Nat.add_zero] at c0
      by_cases hu : (!x.used) = true
      · have hf : Hid (find (fun x => !x.used) es 0 = k) := find_hit _ es k x hx.out hall.out hu
        go_wp2
        go_ret
        exact ⟨ret_int hf.out.symm, rfl⟩
      · have hu' : (!x.used) = false := by simpa using hu
        have hnext : Hid (∀ j, j < k + 1 → ∀ x, es[j]? = some x → (!x.used) = false) := by
          intro j hj y hy
          by_cases e : j = k
          · subst e; rw [hx.out] at hy; obtain rfl := Option.some.inj hy; exact hu'
          · exact hall.out j (by omega) y hy
        go_wp2
        go_round
        case rel => exact ⟨k + 1, by omega, by go_num, hnext⟩
        case measure => simp [intOf]; omega
    · have hf : Hid (find (fun x => !x.used) es 0 = -1) := find_miss _ es (fun j hj y hy => hall.out j (by omega) y hy)
      go_wp2
      go_ret
      exact ⟨ret_int hf.out.symm, rfl⟩

set_option maxHeartbeats 400000 in
theorem hasEntry_calls (h : MemAt w m nb ncap eb ecap ns es) (i : Int) :
    Calls Try.prog 81 #[.pointer (some ⟨m, 0, none⟩), .int .i64 i] w fun e w' => e = .returned (.bool (isIn i 0 (es.length - 1))) ∧ w' = w := by
  have hc := h.hd.cell
  have hs := h.esmall
  clear h
  by_cases h1 : 0 ≤ i
  · by_cases h2 : i < es.length
    · go_enter Try.func81, Try.ntmps81
      go_wp2
      go_ret
      exact ⟨ret_bool (isIn_true (by omega)).symm, rfl⟩
    · go_enter Try.func81, Try.ntmps81
      go_wp2
      go_ret
      exact ⟨ret_bool (isIn_false (by omega)).symm, rfl⟩
  · go_enter Try.func81, Try.ntmps81
    go_wp2
    go_ret
    exact ⟨ret_bool (isIn_false (by omega)).symm, rfl⟩

set_option maxHeartbeats 400000 in
theorem pending_calls (h : MemAt w m nb ncap eb ecap ns es) (n : Int) :
    Calls Try.prog 82 #[.pointer (some ⟨m, 0, none⟩), .int .i64 n] w fun e w' => e = .returned (.int .i64 (find (fun x => x.pending && x.src == n) es 0)) ∧ w' = w := by
  have hc := h.hd.cell
  have hs := h.esmall
  have H : Hid (MemAt w m nb ncap eb ecap ns es) := h
  clear h
  go_enter Try.func82, Try.ntmps82
  go_wp2
  go_loop [5, 11] (fun _ i => ∃ k : Nat, k ≤ es.length ∧ i = .int .i64 k ∧ Hid (∀ j, j < k → ∀ x, es[j]? = some x → (x.pending && x.src == n) = false)) (fun _ i => es.length - (intOf i).toNat)
  case atStart => exact ⟨0, Nat.zero_le _, rfl, fun j hj => by omega⟩
  case round =>
    obtain ⟨k, hk, rfl, hall⟩ := hrel
    by_cases hlt : k < es.length
    · have hx : Hid (es[k]? = some es[k]) := List.getElem?_eq_getElem hlt
      generalize es[k] = x at hx
      have c0 := H.out.ent hx.out (j := 1) (u := .bool x.pending) rfl
      have c1 := H.out.ent hx.out (j := 2) (u := .int .i64 x.src) rfl
      have hnext : Hid ((x.pending && x.src == n) = false → ∀ j, j < k + 1 → ∀ x, es[j]? = some x → (x.pending && x.src == n) = false) := by
        intro hu' j hj y hy
        by_cases e : j = k
        · subst e; rw [hx.out] at hy; obtain rfl := Option.some.inj hy; exact hu'
        · exact hall.out j (by omega) y hy
      have hf : Hid ((x.pending && x.src == n) = true → find (fun x => x.pending && x.src == n) es 0 = k) := find_hit _ es k x hx.out hall.out
      cases hp : x.pending
      · rw [hp] at c0
        go_wp2
        go_round
        case rel => exact ⟨k + 1, by omega, by go_num, hnext.out (by simp [hp])⟩
        case measure => simp [intOf]; omega
      · rw [hp] at c0
        cases hq : (x.src == n)
        · go_wp2
          go_round
          case rel => exact ⟨k + 1, by omega, by go_num, hnext.out (by simp [hp, hq])⟩
          case measure => simp [intOf]; omega
        · go_wp2
          go_ret
          exact ⟨ret_int (hf.out (by simp [hp, hq])).symm, rfl⟩
    · have hf : Hid (find (fun x => x.pending && x.src == n) es 0 = -1) := find_miss _ es (fun j hj y hy => hall.out j (by omega) y hy)
      go_wp2
      go_ret
      exact ⟨ret_int hf.out.symm, rfl⟩
end
end Go.Proofs.Ytjadidjpfdjacaa
