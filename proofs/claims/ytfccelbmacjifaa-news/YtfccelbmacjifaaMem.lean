import Derived.Test.YtfccelbmacjifaaData
import Derived.WalkSpells
import Derived.Deep.QuietTactic
import Derived.BigQuiet
namespace Go.Proofs.Ytfccelbmacjifaa
open Go.RowKit

/-- Where the memory lies. -/
structure MLay where
  m : Nat
  nb : Nat
  ncap : Nat
  eb : Nat
  ecap : Nat
abbrev MAt (w : World) (l : MLay) (M : PMem) : Prop := MemAt w l.m l.nb l.ncap l.eb l.ecap M.ns M.es
def lnk (n : Int) (s : Bool) : Value := .agg #[.int .i64 n, .int .i64 (b2i s)]

section
variable {w : World} {l : MLay} {M : PMem}
theorem MAt.same {S : Nat → Prop} {w' : World} (h : MAt w l M) (hf : Fr S w w') (hm : ¬ S l.m) (hn : ¬ S l.nb) (he : ¬ S l.eb) : MAt w' l M := MemAt.fr h hf hm hn he
theorem MAt.same0 {w' : World} (h : MAt w l M) (hf : Fr (fun _ => False) w w') : MAt w' l M := MemAt.fr h hf (fun h => h) (fun h => h) (fun h => h)

set_option maxHeartbeats 400000 in
theorem freeEntry_calls (h : MAt w l M) :
    Calls Try.prog 32 #[.pointer (some ⟨l.m, 0, none⟩)] w fun e w' => e = .returned (.int .i64 M.freeEntry) ∧ w' = w := by
  have hc := h.hd.cell
  have hs := h.esmall
  have H : Hid (MAt w l M) := h
  clear h
  unfold PMem.freeEntry
  go_enter Try.func32, Try.ntmps32
  go_wp2
  go_loop [3, 9] (fun _ i => ∃ k : Nat, k ≤ M.es.length ∧ i = .int .i64 k ∧ Hid (∀ j, j < k → ∀ x, M.es[j]? = some x → (!x.used) = false)) (fun _ i => M.es.length - (intOf i).toNat)
  case atStart => exact ⟨0, Nat.zero_le _, rfl, fun j hj => by omega⟩
  case round =>
    obtain ⟨k, hk, rfl, hall⟩ := hrel
    by_cases hlt : k < M.es.length
    · have hx : Hid (M.es[k]? = some M.es[k]) := List.getElem?_eq_getElem hlt
      generalize M.es[k] = x at hx
      have c0 := MemAt.ent H.out hx.out (j := 0) (u := .bool x.used) rfl
      rw [Nat.add_zero] at c0
      by_cases hu : (!x.used) = true
      · have hf : Hid (find (fun x => !x.used) M.es 0 = k) := find_hit _ M.es k x hx.out hall.out hu
        go_wp2
        go_ret
        exact ⟨ret_int hf.out.symm, rfl⟩
      · have hu' : (!x.used) = false := by simpa using hu
        have hnext : Hid (∀ j, j < k + 1 → ∀ x, M.es[j]? = some x → (!x.used) = false) := by
          intro j hj y hy
          by_cases e : j = k
          · subst e; rw [hx.out] at hy; obtain rfl := Option.some.inj hy; exact hu'
          · exact hall.out j (by omega) y hy
        go_wp2
        go_round
        case rel => exact ⟨k + 1, by omega, by go_num, hnext⟩
        case measure => simp [intOf]; omega
    · have hf : Hid (find (fun x => !x.used) M.es 0 = -1) := find_miss _ M.es (fun j hj y hy => hall.out j (by omega) y hy)
      go_wp2
      go_ret
      exact ⟨ret_int hf.out.symm, rfl⟩

set_option maxHeartbeats 400000 in
theorem hasEntry_calls (h : MAt w l M) (i : Int) :
    Calls Try.prog 35 #[.pointer (some ⟨l.m, 0, none⟩), .int .i64 i] w fun e w' => e = .returned (.bool (M.hasEntry i)) ∧ w' = w := by
  have hc := h.hd.cell
  have hs := h.esmall
  clear h
  unfold PMem.hasEntry
  by_cases h1 : 0 ≤ i
  · by_cases h2 : i < M.es.length
    · go_enter Try.func35, Try.ntmps35
      go_wp2
      go_ret
      exact ⟨ret_bool (isIn_true (by omega)).symm, rfl⟩
    · go_enter Try.func35, Try.ntmps35
      go_wp2
      go_ret
      exact ⟨ret_bool (isIn_false (by omega)).symm, rfl⟩
  · go_enter Try.func35, Try.ntmps35
    go_wp2
    go_ret
    exact ⟨ret_bool (isIn_false (by omega)).symm, rfl⟩

set_option maxHeartbeats 400000 in
theorem hasNode_calls (h : MAt w l M) (i : Int) :
    Calls Try.prog 31 #[.pointer (some ⟨l.m, 0, none⟩), .int .i64 i] w fun e w' => e = .returned (.bool (M.hasNode i)) ∧ w' = w := by
  have hc := h.hd.cell
  have hs := h.nsmall
  clear h
  unfold PMem.hasNode
  by_cases h1 : 0 ≤ i
  · by_cases h2 : i < M.ns.length
    · go_enter Try.func31, Try.ntmps31
      go_wp2
      go_ret
      exact ⟨ret_bool (isIn_true (by omega)).symm, rfl⟩
    · go_enter Try.func31, Try.ntmps31
      go_wp2
      go_ret
      exact ⟨ret_bool (isIn_false (by omega)).symm, rfl⟩
  · go_enter Try.func31, Try.ntmps31
    go_wp2
    go_ret
    exact ⟨ret_bool (isIn_false (by omega)).symm, rfl⟩

/-- A link in a box of its own. -/
structure Boxed (w0 w : World) (l : MLay) (M : PMem) (b : Nat) (n : Int) (s : Bool) : Prop where
  mem : MAt w l M
  box : At w b [.int .i64 n, .int .i64 (b2i s)] 53
  fr : Fr (fun _ => False) w0 w
theorem Boxed.new (h : MAt w l M) (n : Int) (s : Bool) : Boxed w (w.alloc (.cells #[.int .i64 n, .int .i64 (b2i s)] 53)) l M w.heap.size n s :=
  ⟨MAt.same0 h ((Fr.refl _ _).alloc _), At.new w _ _, (Fr.refl _ _).alloc _⟩
theorem Boxed.drewN {w0 : World} {b : Nat} {n : Int} {s : Bool} (h : Boxed w0 w l M b n s) (q : Nat) : Boxed w0 (w.drewN q) l M b n s := by
  have hf : Fr (fun _ => False) w (w.drewN q) := (Fr.refl _ _).drewN q
  exact ⟨MAt.same0 h.mem hf, hf.at h.box (fun h => h), h.fr.trans hf⟩
theorem Boxed.step {w0 w' : World} {b : Nat} {n : Int} {s : Bool} (h : Boxed w0 w l M b n s) (hf : Fr (fun _ => False) w w') : Boxed w0 w' l M b n s :=
  ⟨MAt.same0 h.mem hf, hf.at h.box (fun h => h), h.fr.trans hf⟩
/-- Only the memory's rows turn. -/
def MFr (l : MLay) (w w' : World) : Prop := Fr (fun k => k = l.nb ∨ k = l.eb) w w'
theorem MFr.of0 {w' : World} (h : Fr (fun _ => False) w w') : MFr l w w' := Fr.mono h (fun _ _ h => h.elim)
theorem MFr.trans {a b c : World} (h : MFr l a b) (k : MFr l b c) : MFr l a c := Fr.trans h k

set_option maxHeartbeats 2000000 in
theorem pending_calls (h : MAt w l M) (n : Int) (s : Bool) :
    Calls Try.prog 37 #[.pointer (some ⟨l.m, 0, none⟩), lnk n s] w fun e w' => e = .returned (.int .i64 (M.pending n s)) ∧ Fr (fun _ => False) w w' := by
  have hs := h.esmall
  have HB := (show Hid (Boxed _ _ _ _ _ _ _) from Boxed.new h n s)
  have hc := HB.out.mem.hd.cell
  clear h
  unfold PMem.pending lnk
  go_enter Try.func37, Try.ntmps37
  go_wp2
  clear hc
  go_loopw [5, 11] (fun _ i wr => ∃ k : Nat, k ≤ M.es.length ∧ i = .int .i64 k ∧ Hid (∀ j, j < k → ∀ x, M.es[j]? = some x → isPd n s x = false) ∧ Hid (Boxed w wr l M w.heap.size n s)) (fun _ i _ => M.es.length - (intOf i).toNat)
  case atStart => exact ⟨0, Nat.zero_le _, rfl, fun j hj => by omega, HB⟩
  case round =>
    clear HB
    obtain ⟨k, hk, rfl, hall, HB⟩ := hrel
    have hc := HB.out.mem.hd.cell
    have hb := HB.out.box.cell
    by_cases hlt : k < M.es.length
    · have hx : Hid (M.es[k]? = some M.es[k]) := List.getElem?_eq_getElem hlt
      generalize M.es[k] = x at hx
      have c0 := MemAt.ent HB.out.mem hx.out (j := 1) (u := .bool x.pending) rfl
      have c1 := MemAt.ent HB.out.mem hx.out (j := 2) (u := .int .i64 x.src) rfl
      have c2 := MemAt.ent HB.out.mem hx.out (j := 3) (u := .int .i64 (b2i x.side)) rfl
      have hnext : Hid (isPd n s x = false → ∀ j, j < k + 1 → ∀ x, M.es[j]? = some x → isPd n s x = false) := by
        intro hu' j hj y hy
        by_cases e : j = k
        · subst e; rw [hx.out] at hy; obtain rfl := Option.some.inj hy; exact hu'
        · exact hall.out j (by omega) y hy
      have hf : Hid (isPd n s x = true → find (isPd n s) M.es 0 = k) := find_hit _ M.es k x hx.out hall.out
      cases hp : x.pending
      · rw [hp] at c0
        go_wp2_with fail
        go_quiet (fail)
        go_wp2
        go_roundw
        case rel => exact ⟨k + 1, by omega, by go_num, hnext.out (by simp [isPd, hp]), HB.out.drewN _⟩
        case measure => simp [intOf]; omega
      · rw [hp] at c0
        cases hq : (x.src == n)
        · cases hr : (b2i x.side == b2i s)
          · go_wp2_with fail
            go_quiet (fail)
            go_wp2
            go_roundw
            case rel => exact ⟨k + 1, by omega, by go_num, hnext.out (by simp [isPd, hp, hq]), HB.out.drewN _⟩
            case measure => simp [intOf]; omega
          · go_wp2_with fail
            go_quiet (fail)
            go_wp2
            go_roundw
            case rel => exact ⟨k + 1, by omega, by go_num, hnext.out (by simp [isPd, hp, hq]), HB.out.drewN _⟩
            case measure => simp [intOf]; omega
        · cases hr : (b2i x.side == b2i s)
          · go_wp2_with fail
            go_quiet (fail)
            go_wp2
            go_roundw
            case rel => exact ⟨k + 1, by omega, by go_num, hnext.out (by rw [b2i_beq] at hr; simp [isPd, hp, hq, hr]), HB.out.drewN _⟩
            case measure => simp [intOf]; omega
          · go_wp2_with fail
            go_quiet (fail)
            go_wp2
            go_ret
            exact ⟨ret_int (hf.out (by rw [b2i_beq] at hr; simp [isPd, hp, hq, hr])).symm, (HB.out.drewN _).fr⟩
    · have hf : Hid (find (isPd n s) M.es 0 = -1) := find_miss _ M.es (fun j hj y hy => hall.out j (by omega) y hy)
      go_wp2
      go_ret
      exact ⟨ret_int hf.out.symm, HB.out.fr⟩
end
end Go.Proofs.Ytfccelbmacjifaa
