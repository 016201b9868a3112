import Derived.Test.YtfccelbmacjifaaMem
namespace Go.Proofs.Ytfccelbmacjifaa
open Go.RowKit
theorem count_take {α : Type} (p : α → Bool) (l : List α) (k : Nat) (x : α) (hx : l[k]? = some x) : count p (l.take (k + 1)) = count p (l.take k) + if p x then 1 else 0 := by
  have hk := (List.getElem?_eq_some_iff.1 hx).1
  have he := (List.getElem?_eq_some_iff.1 hx).2
  unfold count
  rw [List.take_succ_eq_append_getElem hk, List.filter_append, List.length_append, he]
  by_cases h : p x = true <;> simp [h]
theorem count_le {α : Type} (p : α → Bool) (l : List α) (k : Nat) : count p (l.take k) ≤ k := by
  unfold count
  have := List.length_filter_le p (l.take k)
  have := List.length_take_le k l
  omega

section
variable {w : World} {l : MLay} {M : PMem}
set_option maxHeartbeats 800000 in
theorem MRoom_calls (h : MAt w l M) :
    Calls Try.prog 30 #[.pointer (some ⟨l.m, 0, none⟩)] w fun e w' => e = .returned (.tuple #[.int .i64 M.room.1, .int .i64 M.room.2]) ∧ w' = w := by
  have hc := h.hd.cell
  have hs := h.esmall
  have hn := h.nsmall
  have H : Hid (MAt w l M) := h
  clear h
  go_enter Try.func30, Try.ntmps30
  go_wp2
  go_loop [4, 5, 13] (fun c _ i => ∃ k : Nat, k ≤ M.ns.length ∧ i = .int .i64 k ∧ c = .int .i64 (count (fun x => !x.used) (M.ns.take k))) (fun _ _ i => M.ns.length - (intOf i).toNat)
  case atStart => exact ⟨0, Nat.zero_le _, rfl, rfl⟩
  case round =>
    obtain ⟨k, hk, rfl, rfl⟩ := hrel
    have hb := count_le (fun x : PNode => !x.used) M.ns k
    by_cases hlt : k < M.ns.length
    · have hx : Hid (M.ns[k]? = some M.ns[k]) := List.getElem?_eq_getElem hlt
      generalize M.ns[k] = x at hx
      have c0 := MemAt.node H.out hx.out (j := 5) (u := .bool x.used) rfl
      have hn : Hid (count (fun x => !x.used) (M.ns.take (k + 1)) = count (fun x => !x.used) (M.ns.take k) + if !x.used then 1 else 0) := count_take _ M.ns k x hx.out
      cases hu : x.used
      · rw [hu] at c0 hn
        go_wp2
        go_round
        case rel => exact ⟨k + 1, by omega, by go_num, by rw [hn.out]; go_num⟩
        case measure => simp [intOf]; omega
      · rw [hu] at c0 hn
        go_wp2
        go_round
        case rel => exact ⟨k + 1, by omega, by go_num, by rw [hn.out]; go_num⟩
        case measure => simp [intOf]; omega
    · have hk' : k = M.ns.length := by omega
      subst hk'
      rw [List.take_length]
      clear hb
      go_wp2
      go_loop [6, 7, 33] (fun c _ i => ∃ k : Nat, k ≤ M.es.length ∧ i = .int .i64 k ∧ c = .int .i64 (count (fun x => !x.used) (M.es.take k))) (fun _ _ i => M.es.length - (intOf i).toNat)
      case atStart => exact ⟨0, Nat.zero_le _, rfl, rfl⟩
      case round =>
        obtain ⟨k, hk, rfl, rfl⟩ := hrel
        have hb := count_le (fun x : PEntry => !x.used) M.es k
        by_cases hlt : k < M.es.length
        · have hx : Hid (M.es[k]? = some M.es[k]) := List.getElem?_eq_getElem hlt
          generalize M.es[k] = x at hx
          have c0 := MemAt.ent H.out hx.out (j := 0) (u := .bool x.used) rfl
          rw [Nat.add_zero] at c0
          have hn : Hid (count (fun x => !x.used) (M.es.take (k + 1)) = count (fun x => !x.used) (M.es.take k) + if !x.used then 1 else 0) := count_take _ M.es k x hx.out
          cases hu : x.used
          · rw [hu] at c0 hn
            go_wp2
            go_round
            case rel => exact ⟨k + 1, by omega, by go_num, by rw [hn.out]; go_num⟩
            case measure => simp [intOf]; omega
          · rw [hu] at c0 hn
            go_wp2
            go_round
            case rel => exact ⟨k + 1, by omega, by go_num, by rw [hn.out]; go_num⟩
            case measure => simp [intOf]; omega
        · have hk' : k = M.es.length := by omega
          subst hk'
          rw [List.take_length]
          clear hb
          go_wp2
          go_ret2
          exact ⟨rfl, rfl⟩
end
end Go.Proofs.Ytfccelbmacjifaa
