import Derived.Test.YtjadidjpfdjacaaMem
namespace Go.Proofs.Ytjadidjpfdjacaa
open Go.RowKit
section
variable {w : World} {m nb ncap eb ecap : Nat} {ns : List PNode} {es : List PEntry}

theorem find_bd {α : Type} (p : α → Bool) : ∀ (l : List α) (i : Nat), find p l i = -1 ∨ (∃ k x, l[k]? = some x ∧ p x = true ∧ find p l i = ((i + k : Nat) : Int))
  | [], i => .inl rfl
  | y :: r, i => by
    by_cases h : p y = true
    · right; exact ⟨0, y, rfl, h, by simp [find, h]⟩
    · rw [find, if_neg h]
      rcases find_bd p r (i + 1) with h1 | ⟨k, x, h1, h2, h3⟩
      · left; exact h1
      · right; exact ⟨k + 1, x, by simpa using h1, h2, by rw [h3]; congr 1; omega⟩

set_option maxHeartbeats 400000 in
theorem Pend_calls (h : MemAt w m nb ncap eb ecap ns es) (n to : Int) (i : Nat) (hi : i < es.length) (hfree : find (fun x => !x.used) es 0 = i) :
    Calls Try.prog 69 #[.pointer (some ⟨m, 0, none⟩), .int .i64 n, .int .i64 to] w fun e w' => e = .returned (.tuple #[]) ∧
      MemAt w' m nb ncap eb ecap ns (es.set i ⟨true, true, n, to, 0⟩) ∧ Fr (fun k => k = eb) w w' := by
  have hc := h.hd.cell
  have hs := h.esmall
  have H : Hid (MemAt w m nb ncap eb ecap ns es) := h
  have hF : Hid (find (fun x => !x.used) es 0 = i) := hfree
  clear h hfree
  go_enter Try.func69, Try.ntmps69
  go_wp2_with fail
  refine (freeEntry_calls H.out).mono ?_
  rintro e w' ⟨rfl, rfl⟩
  rw [hF.out]
  go_wp2_with fail
  refine (hasEntry_calls H.out _).mono ?_
  rintro e w' ⟨rfl, rfl⟩
  rw [isIn_true (show 0 ≤ (i : Int) ∧ (i : Int) ≤ es.length - 1 by omega)]
  have hx : Hid (es[i]? = some es[i]) := List.getElem?_eq_getElem hi
  generalize es[i] = x at hx
  have c0 := H.out.ent hx.out (j := 0) (u := .bool x.used) rfl
  have c1 := H.out.ent hx.out (j := 1) (u := .bool x.pending) rfl
  have c2 := H.out.ent hx.out (j := 2) (u := .int .i64 x.src) rfl
  have c3 := H.out.ent hx.out (j := 3) (u := .int .i64 x.dst) rfl
  have c4 := H.out.ent hx.out (j := 4) (u := .int .i64 x.stamp) rfl
  have hf := ownsRow_frozen H.out.ents
  rw [Nat.add_zero] at c0
  go_wp2
  go_end0
  exact ⟨rfl, H.out.putEnt hx.out ⟨true, true, n, to, 0⟩, by repeat (first | exact Fr.refl _ _ | refine Fr.set1 ?_ _ _)⟩

set_option maxHeartbeats 400000 in
theorem Stamp_calls (h : MemAt w m nb ncap eb ecap ns es) (n st : Int) (i : Nat) (x : PEntry) (hi : es[i]? = some x) (hfind : find (fun x => x.pending && x.src == n) es 0 = i) :
    Calls Try.prog 70 #[.pointer (some ⟨m, 0, none⟩), .int .i64 n, .int .i64 st] w fun e w' => e = .returned (.tuple #[]) ∧
      MemAt w' m nb ncap eb ecap ns (es.set i { x with pending := false, stamp := st }) ∧ Fr (fun k => k = eb) w w' := by
  have hc := h.hd.cell
  have hs := h.esmall
  have ap := h.apart
  have H : Hid (MemAt w m nb ncap eb ecap ns es) := h
  have hF : Hid (find (fun x => x.pending && x.src == n) es 0 = i) := hfind
  have hx : Hid (es[i]? = some x) := hi
  have hil : i < es.length := (List.getElem?_eq_some_iff.1 hi).1
  obtain ⟨ap1, ap2, ap3⟩ := ap
  have ap2' := ap2.symm
  clear h hfind hi
  go_enter Try.func70, Try.ntmps70
  go_wp2_with fail
  refine (pending_calls H.out n).mono ?_
  rintro e w' ⟨rfl, rfl⟩
  rw [hF.out]
  go_wp2_with fail
  refine (hasEntry_calls H.out _).mono ?_
  rintro e w' ⟨rfl, rfl⟩
  rw [isIn_true (show 0 ≤ (i : Int) ∧ (i : Int) ≤ es.length - 1 by omega)]
  have c1 := H.out.ent hx.out (j := 1) (u := .bool x.pending) rfl
  have c4 := H.out.ent hx.out (j := 4) (u := .int .i64 x.stamp) rfl
  have hf := ownsRow_frozen H.out.ents
  go_wp2
  go_end0
  have a1 := H.out.setEnt hx.out 1 { x with pending := false } (.bool false) (by decide) rfl
  have a2 := a1.setEnt (get_set_same hx.out) 4 { x with pending := false, stamp := st } (.int .i64 st) (by decide) rfl
  rw [List.set_set] at a2
  exact ⟨rfl, a2, by repeat (first | exact Fr.refl _ _ | refine Fr.set1 ?_ _ _)⟩

def free {α : Type} (p : α → Bool) (l : List α) : Nat := (l.filter p).length
theorem free_take {α : Type} (p : α → Bool) (l : List α) (k : Nat) (x : α) (hx : l[k]? = some x) : free p (l.take (k + 1)) = free p (l.take k) + if p x then 1 else 0 := by
  have hk := (List.getElem?_eq_some_iff.1 hx).1
  have he := (List.getElem?_eq_some_iff.1 hx).2
  unfold free
  rw [List.take_succ_eq_append_getElem hk, List.filter_append, List.length_append, he]
  by_cases h : p x = true <;> simp [h]
theorem free_le {α : Type} (p : α → Bool) (l : List α) (k : Nat) : free p (l.take k) ≤ k := by
  unfold free
  have := List.length_filter_le p (l.take k)
  have := List.length_take_le k l
  omega

set_option maxHeartbeats 800000 in
theorem MRoom_calls (h : MemAt w m nb ncap eb ecap ns es) :
    Calls Try.prog 73 #[.pointer (some ⟨m, 0, none⟩)] w fun e w' => e = .returned (.tuple #[.int .i64 (free (fun x => !x.used) ns), .int .i64 (free (fun x => !x.used) es)]) ∧ w' = w := by
  have hc := h.hd.cell
  have hs := h.esmall
  have hn := h.nsmall
  have H : Hid (MemAt w m nb ncap eb ecap ns es) := h
  clear h
  go_enter Try.func73, Try.ntmps73
  go_wp2
  go_loop [4, 5, 13] (fun c _ i => ∃ k : Nat, k ≤ ns.length ∧ i = .int .i64 k ∧ c = .int .i64 (free (fun x => !x.used) (ns.take k))) (fun _ _ i => ns.length - (intOf i).toNat)
  case atStart => exact ⟨0, Nat.zero_le _, rfl, rfl⟩
  case round =>
    obtain ⟨k, hk, rfl, rfl⟩ := hrel
    have hb := free_le (fun x : PNode => !x.used) ns k
    by_cases hlt : k < ns.length
    · have hx : Hid (ns[k]? = some ns[k]) := List.getElem?_eq_getElem hlt
      generalize ns[k] = x at hx
      have c0 := H.out.node hx.out (j := 6) (u := .bool x.used) rfl
      have hn : Hid (free (fun x => !x.used) (ns.take (k + 1)) = free (fun x => !x.used) (ns.take k) + if !x.used then 1 else 0) := free_take _ ns k x hx.out
      cases hu : x.used
      · rw [hu] at c0 hn
        go_wp2
        go_round
        case rel => exact ⟨k + 1, by omega, by go_num, by rw [hn.out]; go_num⟩
        case measure => simp [intOf]; omega
      · rw [hu] at c0 hn
        go_wp2
        go_round
        case rel => exact ⟨k + 1, by omega, by go_num, by rw [hn.out]; go_num⟩
        case measure => simp [intOf]; omega
    · have hk' : k = ns.length := by omega
      subst hk'
      rw [List.take_length]
      clear hb
      go_wp2
      go_loop [6, 7, 33] (fun c _ i => ∃ k : Nat, k ≤ es.length ∧ i = .int .i64 k ∧ c = .int .i64 (free (fun x => !x.used) (es.take k))) (fun _ _ i => es.length - (intOf i).toNat)
      case atStart => exact ⟨0, Nat.zero_le _, rfl, rfl⟩
      case round =>
        obtain ⟨k, hk, rfl, rfl⟩ := hrel
        have hb := free_le (fun x : PEntry => !x.used) es k
        by_cases hlt : k < es.length
        · have hx : Hid (es[k]? = some es[k]) := List.getElem?_eq_getElem hlt
          generalize es[k] = x at hx
          have c0 := H.out.ent hx.out (j := 0) (u := .bool x.used) rfl
          rw [Nat.add_zero] at c0
          have hn : Hid (free (fun x => !x.used) (es.take (k + 1)) = free (fun x => !x.used) (es.take k) + if !x.used then 1 else 0) := free_take _ es k x hx.out
          cases hu : x.used
          · rw [hu] at c0 hn
            go_wp2
            go_round
            case rel => exact ⟨k + 1, by omega, by go_num, by rw [hn.out]; go_num⟩
            case measure => simp [intOf]; omega
          · rw [hu] at c0 hn
            go_wp2
            go_round
            case rel => exact ⟨k + 1, by omega, by go_num, by rw [hn.out]; go_num⟩
            case measure => simp [intOf]; omega
        · have hk' : k = es.length := by omega
          subst hk'
          rw [List.take_length]
          clear hb
          go_wp2
          go_ret2
          exact ⟨rfl, rfl⟩
end
end Go.Proofs.Ytjadidjpfdjacaa
