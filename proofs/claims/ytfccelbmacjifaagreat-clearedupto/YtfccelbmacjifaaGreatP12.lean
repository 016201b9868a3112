import Derived.Test.YtfccelbmacjifaaGreatP11
import Derived.BigRegion
namespace Go.Proofs.YtfccelbmacjifaaGreat
open Go.RowKit
section
variable {w : World} {l : MLay} {M : PMem}

set_option maxHeartbeats 2000000 in
theorem hasLink_calls (h : MAt w l M) (n : Int) (s : Bool) :
    Calls Tryz.prog 124 #[.pointer (some ⟨l.m, 0, none⟩), lnk n s] w fun e w' => e = .returned (.bool (M.hasLink n s)) ∧ Fr (fun _ => False) w w' := by
  have hs := h.nsmall
  have HB := (show Hid (Boxed _ _ _ _ _ _ _) from Boxed.new h n s)
  have hc := HB.out.mem.hd.cell
  have hb := HB.out.box.cell
  clear h
  unfold lnk
  cases hn : M.hasNode n
  · have hE : Hid (M.hasLink n s = false) := by show _ = _; simp [PMem.hasLink, hn]
    cases s
    all_goals
      simp only [b2i_true, b2i_false] at hb ⊢
      go_enter Tryz.func124, Tryz.ntmps124
      go_wp2_with fail
      refine (hasNode_calls HB.out.mem n).mono ?_
      rintro e w' ⟨rfl, rfl⟩
      rw [hn]
      go_wp2
      go_ret
      exact ⟨ret_bool hE.out.symm, HB.out.fr⟩
  · obtain ⟨h0, h1⟩ := isIn_iff.1 hn
    obtain ⟨k, rfl⟩ := Int.eq_ofNat_of_zero_le h0
    have hlt : k < M.ns.length := by omega
    have hx : Hid (M.ns[k]? = some M.ns[k]) := List.getElem?_eq_getElem hlt
    generalize M.ns[k] = x at hx
    have c0 := MemAt.node HB.out.mem hx.out (j := 7) (u := .int .i64 x.links) rfl
    have hE : Hid (M.hasLink k s = decide (b2i s < x.links)) := by show _ = _; simp [PMem.hasLink, hn, PMem.node, hx.out]
    have hn' : Hid (M.hasNode (k : Int) = true) := hn
    clear hn
    by_cases hlk : b2i s < x.links
    · rw [decide_eq_true hlk] at hE
      cases s
      all_goals
        simp only [b2i_true, b2i_false] at hb hc c0 hlk HB ⊢
        go_enter Tryz.func124, Tryz.ntmps124
        go_wp2_with fail
        refine (hasNode_calls HB.out.mem k).mono ?_
        rintro e w' ⟨rfl, rfl⟩
        rw [hn'.out]
        go_wp2_with fail
        go_quiet (fail)
        go_wp2
        go_ret
        exact ⟨ret_bool (by first | exact hE.out.symm | (rw [hE.out]; exact decide_eq_true (by omega))), (HB.out.drewN _).fr⟩
    · rw [decide_eq_false hlk] at hE
      cases s
      all_goals
        simp only [b2i_true, b2i_false] at hb hc c0 hlk HB ⊢
        go_enter Tryz.func124, Tryz.ntmps124
        go_wp2_with fail
        refine (hasNode_calls HB.out.mem k).mono ?_
        rintro e w' ⟨rfl, rfl⟩
        rw [hn'.out]
        go_wp2_with fail
        go_quiet (fail)
        go_wp2
        go_ret
        exact ⟨ret_bool (by first | exact hE.out.symm | (rw [hE.out]; exact decide_eq_false (by omega))), (HB.out.drewN _).fr⟩

set_option maxHeartbeats 2000000 in
theorem Pend_calls (h : MAt w l M) (n : Int) (s : Bool) (to : Int) :
    Calls Tryz.prog 105 #[.pointer (some ⟨l.m, 0, none⟩), lnk n s, .int .i64 to] w fun e w' => e = .returned (.tuple #[]) ∧ MAt w' l (M.pend n s to) ∧ MFr l w w' := by
  have hs := h.esmall
  have HB := (show Hid (Boxed _ _ _ _ _ _ _) from Boxed.new h n s)
  have hc := HB.out.mem.hd.cell
  have hb := HB.out.box.cell
  clear h
  unfold lnk
  go_enter Tryz.func105, Tryz.ntmps105
  go_wp2_with fail
  refine (freeEntry_calls HB.out.mem).mono ?_
  rintro e w' ⟨rfl, rfl⟩
  go_wp2_with fail
  refine (hasEntry_calls HB.out.mem _).mono ?_
  rintro e w' ⟨rfl, rfl⟩
  cases he : M.hasEntry M.freeEntry
  · have hE : Hid (M.pend n s to = M) := by show _ = _; simp [PMem.pend, he]
    go_wp2
    refine bodyPost_ret (results_none rfl _ _ _) rfl ?_
    exact ⟨rfl, by rw [hE.out]; exact HB.out.mem, .of0 HB.out.fr⟩
  · go_wp2_with fail
    refine (hasLink_calls HB.out.mem n s).mono ?_
    rintro e w1 ⟨rfl, hF⟩
    have HB1 := (show Hid (Boxed _ _ _ _ _ _ _) from HB.out.step hF)
    clear hF HB hc hb
    cases hl : M.hasLink n s
    · have hE : Hid (M.pend n s to = M) := by show _ = _; simp [PMem.pend, he, hl]
      go_wp2
      refine bodyPost_ret (results_none rfl _ _ _) rfl ?_
      exact ⟨rfl, by rw [hE.out]; exact HB1.out.mem, .of0 HB1.out.fr⟩
    · have hE : Hid (M.pend n s to = M.setE M.freeEntry ⟨true, true, n, s, to, 0⟩) := by show _ = _; simp [PMem.pend, he, hl]
      obtain ⟨h0, h1⟩ := isIn_iff.1 he
      obtain ⟨k, hk⟩ := Int.eq_ofNat_of_zero_le h0
      rw [hk] at hE ⊢
      have hlt : k < M.es.length := by omega
      have hx : Hid (M.es[k]? = some M.es[k]) := List.getElem?_eq_getElem hlt
      generalize M.es[k] = x at hx
      have hc := HB1.out.mem.hd.cell
      have hb := HB1.out.box.cell
      have c0 := MemAt.ent HB1.out.mem hx.out (j := 0) (u := .bool x.used) rfl
      have c1 := MemAt.ent HB1.out.mem hx.out (j := 1) (u := .bool x.pending) rfl
      have c2 := MemAt.ent HB1.out.mem hx.out (j := 2) (u := .int .i64 x.src) rfl
      have c3 := MemAt.ent HB1.out.mem hx.out (j := 3) (u := .int .i64 (b2i x.side)) rfl
      have c4 := MemAt.ent HB1.out.mem hx.out (j := 4) (u := .int .i64 x.dst) rfl
      have c5 := MemAt.ent HB1.out.mem hx.out (j := 5) (u := .int .i64 x.stamp) rfl
      have hf := ownsRow_frozen HB1.out.mem.ents
      rw [Nat.add_zero] at c0
      clear he h0 h1 hk
      go_wp2_with fail
      go_region
      go_wp2
      go_end0
      rw [hE.out]
      refine ⟨rfl, ?_, (MFr.of0 HB1.out.fr).trans ?_⟩
      · exact MemAt.drew (MemAt.putEnt HB1.out.mem hx.out ⟨true, true, n, s, to, 0⟩)
      · unfold MFr
        repeat (with_reducible first | refine Fr.setIn (.inr rfl) ?_ _ _ | refine Fr.drewN ?_ _ | refine Fr.drew ?_ | exact Fr.refl _ _)

set_option maxHeartbeats 2000000 in
theorem Stamp_calls (h : MAt w l M) (n : Int) (s : Bool) (st : Int) :
    Calls Tryz.prog 106 #[.pointer (some ⟨l.m, 0, none⟩), lnk n s, .int .i64 st] w fun e w' => e = .returned (.tuple #[]) ∧ MAt w' l (M.stamp n s st) ∧ MFr l w w' := by
  have hs := h.esmall
  have ap := h.apart
  have HB := (show Hid (Boxed _ _ _ _ _ _ _) from Boxed.new h n s)
  have hc := HB.out.mem.hd.cell
  have hb := HB.out.box.cell
  obtain ⟨ap1, ap2, ap3⟩ := ap
  have ap2' := ap2.symm
  clear h
  unfold lnk
  go_enter Tryz.func106, Tryz.ntmps106
  go_wp2_with fail
  refine (pending_calls HB.out.mem n s).mono ?_
  rintro e w1 ⟨rfl, hF⟩
  have HB1 := (show Hid (Boxed _ _ _ _ _ _ _) from HB.out.step hF)
  clear hF HB hc hb
  have hc := HB1.out.mem.hd.cell
  have hb := HB1.out.box.cell
  go_wp2_with fail
  refine (hasEntry_calls HB1.out.mem _).mono ?_
  rintro e w' ⟨rfl, rfl⟩
  cases he : M.hasEntry (M.pending n s)
  · have hE : Hid (M.stamp n s st = M) := by show _ = _; simp [PMem.stamp, he]
    go_wp2
    refine bodyPost_ret (results_none rfl _ _ _) rfl ?_
    exact ⟨rfl, by rw [hE.out]; exact HB1.out.mem, .of0 HB1.out.fr⟩
  · have hE : Hid (M.stamp n s st = M.setE (M.pending n s) { M.ent (M.pending n s) with pending := false, stamp := st }) := by show _ = _; simp [PMem.stamp, he]
    obtain ⟨h0, h1⟩ := isIn_iff.1 he
    obtain ⟨k, hk⟩ := Int.eq_ofNat_of_zero_le h0
    rw [hk] at hE ⊢
    have hlt : k < M.es.length := by omega
    have hx : Hid (M.es[k]? = some M.es[k]) := List.getElem?_eq_getElem hlt
    generalize M.es[k] = x at hx
    have hE' : Hid (M.stamp n s st = { M with es := M.es.set k { x with pending := false, stamp := st } }) := by show _ = _; rw [hE.out]; simp [PMem.setE, PMem.ent, hx.out]
    have c1 := MemAt.ent HB1.out.mem hx.out (j := 1) (u := .bool x.pending) rfl
    have c5 := MemAt.ent HB1.out.mem hx.out (j := 5) (u := .int .i64 x.stamp) rfl
    have hf := ownsRow_frozen HB1.out.mem.ents
    clear he h0 h1 hk hE
    go_wp2
    go_end0
    rw [hE'.out]
    refine ⟨rfl, ?_, (MFr.of0 HB1.out.fr).trans ?_⟩
    · have a1 := MemAt.setEnt HB1.out.mem hx.out 1 { x with pending := false } (.bool false) (by decide) rfl
      have a2 := a1.setEnt (get_set_same hx.out) 5 { x with pending := false, stamp := st } (.int .i64 st) (by decide) rfl
      rw [List.set_set] at a2
      exact a2
    · unfold MFr
      repeat (with_reducible first | refine Fr.setIn (.inr rfl) ?_ _ _ | refine Fr.drewN ?_ _ | refine Fr.drew ?_ | exact Fr.refl _ _)

set_option maxHeartbeats 2000000 in
theorem StampNew_calls (h : MAt w l M) (n st : Int) :
    Calls Tryz.prog 89 #[.pointer (some ⟨l.m, 0, none⟩), .int .i64 n, .int .i64 st] w fun e w' => e = .returned (.tuple #[]) ∧ MAt w' l (M.stampNew n st) ∧ MFr l w w' := by
  have H := (show Hid (MAt w l M) from h)
  clear h
  go_enter Tryz.func89, Tryz.ntmps89
  go_wp2_with fail
  go_loopw [6] (fun i wr => (i = .int .i64 0 ∧ Hid (wr = w)) ∨ (i = .int .i64 1 ∧ Hid (MAt wr l (M.stamp n false st)) ∧ Hid (MFr l w wr)) ∨ (i = .int .i64 2 ∧ Hid (MAt wr l (M.stampNew n st)) ∧ Hid (MFr l w wr))) (fun i _ => 2 - (intOf i).toNat)
  case atStart => exact .inl ⟨rfl, rfl⟩
  case round =>
    rcases hrel with ⟨rfl, hw⟩ | ⟨rfl, H1, F1⟩ | ⟨rfl, H2, F2⟩
    · have hw' := hw.out
      subst hw'
      clear hw
      go_wp2_with fail
      refine (Stamp_calls H.out n false st).mono ?_
      rintro e w1 ⟨rfl, h1, h2⟩
      have H1 := (show Hid (MAt _ _ _) from h1)
      have F1 := (show Hid (MFr _ _ _) from h2)
      clear h1 h2
      go_wp2
      go_roundw
      case rel => exact .inr (.inl ⟨by go_num, H1, F1⟩)
      case measure => simp [intOf]
    · go_wp2_with fail
      refine (Stamp_calls H1.out n true st).mono ?_
      rintro e w1 ⟨rfl, h1, h2⟩
      have H2 := (show Hid (MAt _ _ _) from h1)
      have F2 := (show Hid (MFr _ _ _) from F1.out.trans h2)
      clear h1 h2
      go_wp2
      go_roundw
      case rel => exact .inr (.inr ⟨by go_num, H2, F2⟩)
      case measure => simp [intOf]
    · go_wp2
      go_end0
      exact ⟨rfl, H2.out, F2.out⟩

/-- A node is turned. -/
theorem MAt.nodeSet {w' : World} {k : Nat} {x : PNode} (hx : M.ns[k]? = some x) (y : PNode) (h : MemAt w' l.m l.nb l.ncap l.eb l.ecap (M.ns.set k y) M.es) (g : PNode → PNode) (hg : g x = y) : MAt w' l (M.modN k g) := by
  have e : M.modN k g = { M with ns := M.ns.set k y } := by
    unfold PMem.modN
    have : M.hasNode (k : Int) = true := by
      have := (List.getElem?_eq_some_iff.1 hx).1
      exact isIn_true (by omega)
    rw [this]
    simp only [if_pos, Int.toNat_natCast]
    congr 1
    apply List.ext_getElem?
    intro j
    rw [List.getElem?_modify, List.getElem?_set]
    by_cases hj : k = j
    · subst hj
      obtain ⟨h1, h2⟩ := List.getElem?_eq_some_iff.1 hx
      simp [h1, h2, hg]
    · simp [hj]
  rw [e]; exact h

set_option maxHeartbeats 4000000 in
theorem AddLink_calls (h : MAt w l M) (n to : Int) :
    Calls Tryz.prog 88 #[.pointer (some ⟨l.m, 0, none⟩), .int .i64 n, .int .i64 to] w fun e w' => e = .returned (.tuple #[]) ∧ MAt w' l (M.addLink n to) ∧ MFr l w w' := by
  have hs := h.nsmall
  have hc := h.hd.cell
  obtain ⟨ap1, ap2, ap3⟩ := h.apart
  have ap1' := ap1.symm
  have H := (show Hid (MAt w l M) from h)
  clear h
  go_enter Tryz.func88, Tryz.ntmps88
  go_wp2_with fail
  refine (hasNode_calls H.out n).mono ?_
  rintro e w' ⟨rfl, rfl⟩
  cases hn : M.hasNode n
  · have hE : Hid (M.addLink n to = M) := by show _ = _; simp [PMem.addLink, hn]
    go_wp2
    refine bodyPost_ret (results_none rfl _ _ _) rfl ?_
    exact ⟨rfl, by rw [hE.out]; exact H.out, .of0 (Fr.refl _ _)⟩
  · go_wp2_with fail
    refine (freeEntry_calls H.out).mono ?_
    rintro e w' ⟨rfl, rfl⟩
    cases hfe : (M.freeEntry == -1)
    · obtain ⟨h0, h1⟩ := isIn_iff.1 hn
      obtain ⟨k, rfl⟩ := Int.eq_ofNat_of_zero_le h0
      have hlt : k < M.ns.length := by omega
      have hx : Hid (M.ns[k]? = some M.ns[k]) := List.getElem?_eq_getElem hlt
      generalize M.ns[k] = x at hx
      have c7 := MemAt.node H.out hx.out (j := 7) (u := .int .i64 x.links) rfl
      have c8 := MemAt.node H.out hx.out (j := 8) (u := .int .i64 (x.leads false)) rfl
      have c9 := MemAt.node H.out hx.out (j := 9) (u := .int .i64 (x.leads true)) rfl
      have hf := ownsRow_frozen H.out.nodes
      have hnode : Hid (M.node k = x) := by show _ = _; simp [PMem.node, hn, hx.out]
      have hn' := (show Hid (M.hasNode (k : Int) = true) from hn)
      clear hn h0 h1
      match hlk : x.links with
      | 0 =>
        have hE : Hid (M.addLink k to = (M.modN k (linked false to)).pend k false to) := by
          show _ = _
          have : (M.freeEntry != -1) = true := by simp [bne, hfe]
          simp [PMem.addLink, hn'.out, this, hnode.out, hlk]
        rw [hlk] at c7
        go_wp2_with fail
        have a1 := MemAt.setNode H.out hx.out 7 { x with links := 1 } (.int .i64 1) (by decide) rfl
        have a2 := a1.setNode (get_set_same hx.out) 8 { x with links := 1, leads := upd x.leads false to } (.int .i64 to) (by decide) rfl
        rw [List.set_set] at a2
        have a3 := MAt.nodeSet hx.out _ a2 (linked false to) (by simp [linked, hlk])
        refine (Pend_calls a3 k false to).mono ?_
        rintro e w1 ⟨rfl, h1, h2⟩
        have H1 := (show Hid (MAt _ _ _) from h1)
        have F1 := (show Hid (MFr _ _ _) from h2)
        clear h1 h2 a1 a2 a3
        go_wp2
        go_end0
        refine ⟨rfl, by rw [hE.out]; exact H1.out, Fr.trans ?_ F1.out⟩
        repeat (with_reducible first | refine Fr.setIn (.inl rfl) ?_ _ _ | refine Fr.drewN ?_ _ | refine Fr.drew ?_ | exact Fr.refl _ _)
      | 1 =>
        have hE : Hid (M.addLink k to = (M.modN k (linked true to)).pend k true to) := by
          show _ = _
          have : (M.freeEntry != -1) = true := by simp [bne, hfe]
          simp [PMem.addLink, hn'.out, this, hnode.out, hlk]
        rw [hlk] at c7
        go_wp2_with fail
        have a1 := MemAt.setNode H.out hx.out 7 { x with links := 2 } (.int .i64 2) (by decide) rfl
        have a2 := a1.setNode (get_set_same hx.out) 9 { x with links := 2, leads := upd x.leads true to } (.int .i64 to) (by decide) rfl
        rw [List.set_set] at a2
        have a3 := MAt.nodeSet hx.out _ a2 (linked true to) (by simp [linked, hlk])
        refine (Pend_calls a3 k true to).mono ?_
        rintro e w1 ⟨rfl, h1, h2⟩
        have H1 := (show Hid (MAt _ _ _) from h1)
        have F1 := (show Hid (MFr _ _ _) from h2)
        clear h1 h2 a1 a2 a3
        go_wp2
        go_end0
        refine ⟨rfl, by rw [hE.out]; exact H1.out, Fr.trans ?_ F1.out⟩
        repeat (with_reducible first | refine Fr.setIn (.inl rfl) ?_ _ _ | refine Fr.drewN ?_ _ | refine Fr.drew ?_ | exact Fr.refl _ _)
      | q + 2 =>
        have hE : Hid (M.addLink k to = M) := by show _ = _; simp [PMem.addLink, hnode.out, hlk]
        rw [hlk] at c7
        have hq : Hid (((q : Int) + 2 < 0) = False) := by show _ = _; simp; omega
        go_wp2
        refine bodyPost_ret (results_none rfl _ _ _) rfl ?_
        exact ⟨rfl, by rw [hE.out]; exact H.out, .of0 (Fr.refl _ _)⟩
    · have hE : Hid (M.addLink n to = M) := by show _ = _; simp [PMem.addLink, bne, hfe]
      go_wp2
      refine bodyPost_ret (results_none rfl _ _ _) rfl ?_
      exact ⟨rfl, by rw [hE.out]; exact H.out, .of0 (Fr.refl _ _)⟩
end
end Go.Proofs.YtfccelbmacjifaaGreat

namespace Go.Proofs.YtfccelbmacjifaaGreat
open Go.RowKit
section
variable {w : World} {l : MLay} {M : PMem}

set_option maxHeartbeats 400000 in
theorem freeNode_calls (h : MAt w l M) :
    Calls Tryz.prog 191 #[.pointer (some ⟨l.m, 0, none⟩)] w fun e w' => e = .returned (.int .i64 M.freeNode) ∧ w' = w := by
  have hc := h.hd.cell
  have hs := h.nsmall
  have H : Hid (MAt w l M) := h
  clear h
  unfold PMem.freeNode
  go_enter Tryz.func191, Tryz.ntmps191
  go_wp2
  go_loop [3, 9] (fun _ i => ∃ k : Nat, k ≤ M.ns.length ∧ i = .int .i64 k ∧ Hid (∀ j, j < k → ∀ x, M.ns[j]? = some x → (!x.used) = false)) (fun _ i => M.ns.length - (intOf i).toNat)
  case atStart => exact ⟨0, Nat.zero_le _, rfl, fun j hj => by omega⟩
  case round =>
    obtain ⟨k, hk, rfl, hall⟩ := hrel
    by_cases hlt : k < M.ns.length
    · have hx : Hid (M.ns[k]? = some M.ns[k]) := List.getElem?_eq_getElem hlt
      generalize M.ns[k] = x at hx
      have c0 := MemAt.node H.out hx.out (j := 5) (u := .bool x.used) rfl
      by_cases hu : (!x.used) = true
      · have hf : Hid (find (fun x => !x.used) M.ns 0 = k) := find_hit _ M.ns k x hx.out hall.out hu
        go_wp2
        go_ret
        exact ⟨ret_int hf.out.symm, rfl⟩
      · have hu' : (!x.used) = false := by simpa using hu
        have hnext : Hid (∀ j, j < k + 1 → ∀ x, M.ns[j]? = some x → (!x.used) = false) := by
          intro j hj y hy
          by_cases e : j = k
          · subst e; rw [hx.out] at hy; obtain rfl := Option.some.inj hy; exact hu'
          · exact hall.out j (by omega) y hy
        go_wp2
        go_round
        case rel => exact ⟨k + 1, by omega, by go_num, hnext⟩
        case measure => simp [intOf]; omega
    · have hf : Hid (find (fun x => !x.used) M.ns 0 = -1) := find_miss _ M.ns (fun j hj y hy => hall.out j (by omega) y hy)
      go_wp2
      go_ret
      exact ⟨ret_int hf.out.symm, rfl⟩

/-- A node's place, and its cells. -/
theorem hasNode_get {n : Int} (h : M.hasNode n = true) : ∃ (k : Nat) (x : PNode), n = k ∧ k < M.ns.length ∧ M.ns[k]? = some x ∧ M.node n = x := by
  obtain ⟨h0, h1⟩ := isIn_iff.1 h
  obtain ⟨k, rfl⟩ := Int.eq_ofNat_of_zero_le h0
  have hlt : k < M.ns.length := by omega
  refine ⟨k, M.ns[k], rfl, hlt, List.getElem?_eq_getElem hlt, ?_⟩
  unfold PMem.node; rw [h]; simp [hlt]
theorem node_no {n : Int} (h : M.hasNode n = false) : M.node n = PNode.zero := by unfold PMem.node; rw [h]; simp
set_option maxHeartbeats 2000000 in
theorem Make_calls (h : MAt w l M) (key value : Int) :
    Calls Tryz.prog 185 #[.pointer (some ⟨l.m, 0, none⟩), .int .i64 key, .int .i64 value] w fun e w' => e = .returned (.int .i64 (M.make key value).2) ∧ MAt w' l (M.make key value).1 ∧ MFr l w w' := by
  have hs := h.nsmall
  have hc := h.hd.cell
  have H := (show Hid (MAt w l M) from h)
  clear h
  go_enter Tryz.func185, Tryz.ntmps185
  go_wp2_with fail
  refine (freeNode_calls H.out).mono ?_
  rintro e w' ⟨rfl, rfl⟩
  go_wp2_with fail
  refine (hasNode_calls H.out _).mono ?_
  rintro e w' ⟨rfl, rfl⟩
  cases he : M.hasNode M.freeNode
  · have hE : Hid (M.make key value = (M, -1)) := by show _ = _; simp [PMem.make, he]
    go_wp2
    go_ret
    rw [hE.out]
    exact ⟨rfl, H.out, .of0 (Fr.refl _ _)⟩
  · have hE : Hid (M.make key value = ({ M with ns := M.ns.set M.freeNode.toNat (PNode.made key value) }, M.freeNode)) := by show _ = _; simp [PMem.make, he]
    obtain ⟨k, x, hk, hlt, hx, _⟩ := hasNode_get he
    rw [hk] at hE ⊢
    have HX := (show Hid (M.ns[k]? = some x) from hx)
    have c0 := MemAt.node H.out HX.out (j := 0) (u := .int .i64 x.key) rfl
    have c1 := MemAt.node H.out HX.out (j := 1) (u := .int .i64 x.value) rfl
    have c2 := MemAt.node H.out HX.out (j := 2) (u := .bool x.dead) rfl
    have c3 := MemAt.node H.out HX.out (j := 3) (u := .bool x.retired) rfl
    have c4 := MemAt.node H.out HX.out (j := 4) (u := .int .i64 x.retiredAt) rfl
    have c5 := MemAt.node H.out HX.out (j := 5) (u := .bool x.used) rfl
    have c6 := MemAt.node H.out HX.out (j := 6) (u := .int .i64 x.holder) rfl
    have c7 := MemAt.node H.out HX.out (j := 7) (u := .int .i64 x.links) rfl
    have c8 := MemAt.node H.out HX.out (j := 8) (u := .int .i64 (x.leads false)) rfl
    have c9 := MemAt.node H.out HX.out (j := 9) (u := .int .i64 (x.leads true)) rfl
    have hf := ownsRow_frozen H.out.nodes
    rw [Nat.add_zero] at c0
    clear he hk hx
    go_wp2
    go_ret
    rw [hE.out]
    refine ⟨rfl, ?_, ?_⟩
    · exact MemAt.putNode H.out HX.out (PNode.made key value)
    · unfold MFr
      repeat (with_reducible first | refine Fr.setIn (.inl rfl) ?_ _ _ | refine Fr.drewN ?_ _ | refine Fr.drew ?_ | exact Fr.refl _ _)

set_option maxHeartbeats 2000000 in
theorem Lock_calls (h : MAt w l M) (n t : Int) :
    Calls Tryz.prog 162 #[.pointer (some ⟨l.m, 0, none⟩), .int .i64 n, .int .i64 t] w fun e w' => e = .returned (.bool (M.lock n t).2) ∧ MAt w' l (M.lock n t).1 ∧ MFr l w w' := by
  have hs := h.nsmall
  have hc := h.hd.cell
  have H := (show Hid (MAt w l M) from h)
  clear h
  go_enter Tryz.func162, Tryz.ntmps162
  go_wp2_with fail
  refine (hasNode_calls H.out _).mono ?_
  rintro e w' ⟨rfl, rfl⟩
  cases hn : M.hasNode n
  · have hE : Hid (M.lock n t = (M, false)) := by show _ = _; simp [PMem.lock, hn]
    go_wp2
    go_ret
    rw [hE.out]
    exact ⟨rfl, H.out, .of0 (Fr.refl _ _)⟩
  · obtain ⟨k, x, rfl, hlt, hx, hnode⟩ := hasNode_get hn
    have HX := (show Hid (M.ns[k]? = some x) from hx)
    have c6 := MemAt.node H.out HX.out (j := 6) (u := .int .i64 x.holder) rfl
    have hf := ownsRow_frozen H.out.nodes
    have hy : Hid (M.lock k t = (M.modN k fun x => { x with holder := t }, true) → MAt (w'.setCell ⟨l.nb, k * 10 + 6, none⟩ (.int .i64 t)) l (M.lock k t).1) := by
      intro e; rw [e]
      exact MAt.nodeSet hx _ (MemAt.setNode H.out hx 6 { x with holder := t } (.int .i64 t) (by decide) rfl) _ rfl
    cases h1 : (x.holder != -1)
    · have hE : Hid (M.lock k t = (M.modN k fun x => { x with holder := t }, true)) := by show _ = _; simp [PMem.lock, hn, hnode, h1]
      clear hn hnode hx
      go_wp2
      go_ret
      refine ⟨ret_bool (by rw [hE.out]), hy.out hE.out, ?_⟩
      unfold MFr
      repeat (with_reducible first | refine Fr.setIn (.inl rfl) ?_ _ _ | refine Fr.drewN ?_ _ | refine Fr.drew ?_ | exact Fr.refl _ _)
    · cases h2 : (x.holder != t)
      · have hE : Hid (M.lock k t = (M.modN k fun x => { x with holder := t }, true)) := by show _ = _; simp [PMem.lock, hn, hnode, h1, h2]
        clear hn hnode hx
        go_wp2
        go_ret
        refine ⟨ret_bool (by rw [hE.out]), hy.out hE.out, ?_⟩
        unfold MFr
        repeat (with_reducible first | refine Fr.setIn (.inl rfl) ?_ _ _ | refine Fr.drewN ?_ _ | refine Fr.drew ?_ | exact Fr.refl _ _)
      · have hE : Hid (M.lock k t = (M, false)) := by show _ = _; simp [PMem.lock, hn, hnode, h1, h2]
        clear hn hnode hx
        go_wp2
        go_ret
        rw [hE.out]
        exact ⟨rfl, H.out, .of0 (Fr.refl _ _)⟩

set_option maxHeartbeats 1000000 in
theorem Kill_calls (h : MAt w l M) (n : Int) :
    Calls Tryz.prog 172 #[.pointer (some ⟨l.m, 0, none⟩), .int .i64 n] w fun e w' => e = .returned (.tuple #[]) ∧ MAt w' l (M.kill n) ∧ MFr l w w' := by
  have hs := h.nsmall
  have hc := h.hd.cell
  have H := (show Hid (MAt w l M) from h)
  clear h
  go_enter Tryz.func172, Tryz.ntmps172
  go_wp2_with fail
  refine (hasNode_calls H.out _).mono ?_
  rintro e w' ⟨rfl, rfl⟩
  cases hn : M.hasNode n
  · have hE : Hid (M.kill n = M) := by show _ = _; simp [PMem.kill, PMem.modN, hn]
    go_wp2
    go_end0
    rw [hE.out]
    exact ⟨rfl, H.out, .of0 (Fr.refl _ _)⟩
  · obtain ⟨k, x, rfl, hlt, hx, _⟩ := hasNode_get hn
    have HX := (show Hid (M.ns[k]? = some x) from hx)
    have c2 := MemAt.node H.out HX.out (j := 2) (u := .bool x.dead) rfl
    have hf := ownsRow_frozen H.out.nodes
    clear hn hx
    go_wp2
    go_end0
    refine ⟨rfl, MAt.nodeSet HX.out _ (MemAt.setNode H.out HX.out 2 { x with dead := true } (.bool true) (by decide) rfl) _ rfl, ?_⟩
    unfold MFr
    repeat (with_reducible first | refine Fr.setIn (.inl rfl) ?_ _ _ | refine Fr.drewN ?_ _ | refine Fr.drew ?_ | exact Fr.refl _ _)

set_option maxHeartbeats 1000000 in
theorem Retire_calls (h : MAt w l M) (n t : Int) :
    Calls Tryz.prog 173 #[.pointer (some ⟨l.m, 0, none⟩), .int .i64 n, .int .i64 t] w fun e w' => e = .returned (.tuple #[]) ∧ MAt w' l (M.retire n t) ∧ MFr l w w' := by
  have hs := h.nsmall
  have hc := h.hd.cell
  obtain ⟨ap1, ap2, ap3⟩ := h.apart
  have ap1' := ap1.symm
  have H := (show Hid (MAt w l M) from h)
  clear h
  go_enter Tryz.func173, Tryz.ntmps173
  go_wp2_with fail
  refine (hasNode_calls H.out _).mono ?_
  rintro e w' ⟨rfl, rfl⟩
  cases hn : M.hasNode n
  · have hE : Hid (M.retire n t = M) := by show _ = _; simp [PMem.retire, PMem.modN, hn]
    go_wp2
    go_end0
    rw [hE.out]
    exact ⟨rfl, H.out, .of0 (Fr.refl _ _)⟩
  · obtain ⟨k, x, rfl, hlt, hx, _⟩ := hasNode_get hn
    have HX := (show Hid (M.ns[k]? = some x) from hx)
    have c3 := MemAt.node H.out HX.out (j := 3) (u := .bool x.retired) rfl
    have c4 := MemAt.node H.out HX.out (j := 4) (u := .int .i64 x.retiredAt) rfl
    have hf := ownsRow_frozen H.out.nodes
    clear hn hx
    go_wp2
    go_end0
    have a1 := MemAt.setNode H.out HX.out 3 { x with retired := true } (.bool true) (by decide) rfl
    have a2 := a1.setNode (get_set_same HX.out) 4 { x with retired := true, retiredAt := t } (.int .i64 t) (by decide) rfl
    rw [List.set_set] at a2
    refine ⟨rfl, MAt.nodeSet HX.out _ a2 _ rfl, ?_⟩
    unfold MFr
    repeat (with_reducible first | refine Fr.setIn (.inl rfl) ?_ _ _ | refine Fr.drewN ?_ _ | refine Fr.drew ?_ | exact Fr.refl _ _)
end
end Go.Proofs.YtfccelbmacjifaaGreat

namespace Go.Proofs.YtfccelbmacjifaaGreat
open Go.RowKit
section
variable {w : World} {l : MLay} {M : PMem}
def nodeVal (x : PNode) : Value := .agg #[.int .i64 x.key, .int .i64 x.value, .bool x.dead, .bool x.retired, .int .i64 x.retiredAt, .bool x.used, .int .i64 x.holder, .int .i64 x.links, .int .i64 (x.leads false), .int .i64 (x.leads true)]

set_option maxHeartbeats 2000000 in
theorem Node_size (h : MAt w l M) (n : Int) :
    Calls Tryz.prog 149 #[.pointer (some ⟨l.m, 0, none⟩), .int .i64 n] w fun e w' => e = .returned (nodeVal (M.node n)) ∧ Fr (fun _ => False) w w' ∧ w'.heap.size = w.heap.size + 1 := by
  have hs := h.nsmall
  have hm := h.hd.lt
  have hnb := ownsRow_lt0 h.nodes
  have H := (show Hid (MAt w l M) from h)
  have hF : Fr (fun _ => False) w (w.alloc (.cells PNode.zero.cells.toArray 166)) := (Fr.refl _ _).alloc _
  have H1 := (show Hid (MAt _ l M) from MAt.same0 h hF)
  have hA := At.new w PNode.zero.cells 166
  have hz := hA.frozen
  have hac := hA.cell
  have hc := H1.out.hd.cell
  have HF := (show Hid (Fr _ _ _) from hF)
  clear h hF hA
  simp only [PNode.zero, PNode.cells, Int.natCast_zero] at hz hac hc H1 HF
  go_enter Tryz.func149, Tryz.ntmps149
  go_wp2_with fail
  refine (hasNode_calls H1.out n).mono ?_
  rintro e w' ⟨rfl, rfl⟩
  cases hn : M.hasNode n
  · have hE : Hid (M.node n = PNode.zero) := node_no hn
    go_wp2
    refine bodyPost_ret (v := nodeVal PNode.zero) (by simp [results, Tryz.results149, go_sem, nodeVal, PNode.zero]) rfl ?_
    rw [hE.out]
    refine ⟨rfl, ?_, by simp⟩
    repeat (with_reducible first | refine Fr.alloc ?_ _ | exact Fr.refl _ _)
  · obtain ⟨k, x, rfl, hlt, hx, hE⟩ := hasNode_get hn
    have HE := (show Hid (M.node k = x) from hE)
    have c0 := MemAt.node H1.out hx (j := 0) (u := .int .i64 x.key) rfl
    have c1 := MemAt.node H1.out hx (j := 1) (u := .int .i64 x.value) rfl
    have c2 := MemAt.node H1.out hx (j := 2) (u := .bool x.dead) rfl
    have c3 := MemAt.node H1.out hx (j := 3) (u := .bool x.retired) rfl
    have c4 := MemAt.node H1.out hx (j := 4) (u := .int .i64 x.retiredAt) rfl
    have c5 := MemAt.node H1.out hx (j := 5) (u := .bool x.used) rfl
    have c6 := MemAt.node H1.out hx (j := 6) (u := .int .i64 x.holder) rfl
    have c7 := MemAt.node H1.out hx (j := 7) (u := .int .i64 x.links) rfl
    have c8 := MemAt.node H1.out hx (j := 8) (u := .int .i64 (x.leads false)) rfl
    have c9 := MemAt.node H1.out hx (j := 9) (u := .int .i64 (x.leads true)) rfl
    rw [Nat.add_zero] at c0
    clear hx hE hn
    go_wp2
    refine bodyPost_ret (v := nodeVal x) (by simp [results, Tryz.results149, go_sem, nodeVal]) rfl ?_
    rw [HE.out]
    refine ⟨rfl, ?_, by simp⟩
    repeat (with_reducible first | refine Fr.alloc ?_ _ | exact Fr.refl _ _)

theorem Node_calls (h : MAt w l M) (n : Int) :
    Calls Tryz.prog 149 #[.pointer (some ⟨l.m, 0, none⟩), .int .i64 n] w fun e w' => e = .returned (nodeVal (M.node n)) ∧ Fr (fun _ => False) w w' :=
  (Node_size h n).mono fun _ _ h => ⟨h.1, h.2.1⟩

set_option maxHeartbeats 1000000 in
theorem IsInner_size (x : PNode) (w : World) :
    Calls Tryz.prog 157 #[nodeVal x] w fun e w' => e = .returned (.bool (x.links == 2)) ∧ Fr (fun _ => False) w w' ∧ w'.heap.size = w.heap.size + 1 := by
  have hA := At.new w x.cells 166
  have hac := hA.cell
  clear hA
  simp only [PNode.cells] at hac
  have hE : Hid (((x.links : Int) == 2) = (x.links == 2)) := by
    show _ = _
    cases h : (x.links == 2)
    · rw [beq_eq_false_iff_ne] at h ⊢; omega
    · rw [beq_iff_eq] at h ⊢; omega
  unfold nodeVal
  cases hq : ((x.links : Int) == 2)
  all_goals
    go_enter Tryz.func157, Tryz.ntmps157
    go_wp2
    go_ret
    exact ⟨ret_bool (by rw [← hE.out]; first | rfl | exact hq.symm | exact hq), (Fr.refl _ _).alloc _, by simp⟩
theorem IsInner_calls (x : PNode) (w : World) :
    Calls Tryz.prog 157 #[nodeVal x] w fun e w' => e = .returned (.bool (x.links == 2)) ∧ Fr (fun _ => False) w w' :=
  (IsInner_size x w).mono fun _ _ h => ⟨h.1, h.2.1⟩
theorem field_key (x : PNode) : ∀ w : World, (Instr.field 166 (nodeVal x) 0).run Tryz.prog w = .ok (.int .i64 x.key) w := fun _ => by kernel_rfl
theorem field_value (x : PNode) : ∀ w : World, (Instr.field 166 (nodeVal x) 1).run Tryz.prog w = .ok (.int .i64 x.value) w := fun _ => by kernel_rfl
theorem field_dead (x : PNode) : ∀ w : World, (Instr.field 166 (nodeVal x) 2).run Tryz.prog w = .ok (.bool x.dead) w := fun _ => by kernel_rfl
theorem field_retiredAt (x : PNode) : ∀ w : World, (Instr.field 166 (nodeVal x) 4).run Tryz.prog w = .ok (.int .i64 x.retiredAt) w := fun _ => by kernel_rfl
end
end Go.Proofs.YtfccelbmacjifaaGreat

set_option linter.unusedSimpArgs false
namespace Go.Proofs.YtfccelbmacjifaaGreat
open Go.RowKit
section
variable {w : World} {l : MLay} {M : PMem}

set_option maxHeartbeats 4000000 in
theorem LinkFor_size (h : MAt w l M) (n key : Int) :
    Calls Tryz.prog 151 #[.pointer (some ⟨l.m, 0, none⟩), .int .i64 n, .int .i64 key] w fun e w' => e = .returned (lnk n (M.sideFor n key)) ∧ Fr (fun _ => False) w w' ∧ w'.heap.size = w.heap.size + 4 := by
  have H := (show Hid (MAt w l M) from h)
  have hF : Fr (fun _ => False) w (w.alloc (.cells #[.int .i64 0, .int .i64 0] 109)) := (Fr.refl _ _).alloc _
  have H1 := (show Hid (MAt _ l M) from MAt.same0 h hF)
  have hA := At.new w [.int .i64 0, .int .i64 0] 109
  have HA := (show Hid (At _ _ _ _) from hA)
  have HF := (show Hid (Fr _ _ _) from hF)
  clear h hF hA
  go_enter Tryz.func151, Tryz.ntmps151
  go_wp2_with fail
  refine (Node_size H1.out n).mono ?_
  rintro e w1 ⟨rfl, hF1, hz1⟩
  have HZ1 := (show Hid (w1.heap.size = _) from hz1)
  clear hz1
  have hA1 := hF1.at HA.out (fun h => h)
  have hsz := hA1.lt
  have HF1 := (show Hid (Fr _ w w1) from HF.out.trans hF1)
  have HA1 := (show Hid (At _ _ _ _) from hA1)
  generalize hx : M.node n = x
  have hside : Hid (M.sideFor n key = ((x.links == 2) && decide (x.key ≤ key))) := by show _ = _; unfold PMem.sideFor; rw [hx]
  unfold nodeVal
  clear hF1 HA HF H1 H hA1 hx
  go_wp2_with fail
  refine (IsInner_size x _).mono ?_
  rintro e w2 ⟨rfl, hF2, hz2'⟩
  have hsize : Hid (w2.heap.size = w.heap.size + 4) := by
    show _ = _
    have hz1 := HZ1.out
    simp only [World.size_alloc] at hz1 hz2'
    omega
  clear HZ1 hz2'
  have hA2 := hF2.at (HA1.out.alloc _) (fun h => h)
  have hB2 := hF2.at (At.new w1 x.cells 166) (fun h => h)
  have hz2 := hA2.frozen
  have hc2 := hA2.cell
  have hb2 := hB2.cell
  simp only [PNode.cells] at hb2
  have HF2 := (show Hid (Fr _ w w2) from (HF1.out.alloc _).trans hF2)
  have HA2 := (show Hid (At _ _ _ _) from hA2)
  have hsz2 : w.heap.size ≤ w.heap.size := Nat.le_refl _
  clear hF2 hA2 hB2 HF1 HA1
  cases hl : (x.links == 2)
  · have hs : Hid (M.sideFor n key = false) := by show _ = _; rw [hside.out, hl]; rfl
    go_wp2
    have f0 := (HA2.out.set 0 (.int .i64 n)).cell
    have f1 := ((HA2.out.set 0 (.int .i64 n)).set 1 (.int .i64 0)).cell
    refine bodyPost_ret (v := lnk n false) (by simp [results, Tryz.results151, go_sem, lnk, b2i, f0, f1]) rfl ?_
    rw [hs.out]
    refine ⟨rfl, ?_, by simpa using hsize.out⟩
    exact Fr.setNew (Nat.le_refl _) (Fr.setNew (Nat.le_refl _) HF2.out _ _) _ _
  · by_cases hk : x.key ≤ key
    · have hs : Hid (M.sideFor n key = true) := by show _ = _; rw [hside.out, hl, decide_eq_true hk]; rfl
      go_wp2
      have f0 := (HA2.out.set 0 (.int .i64 n)).cell
      have f1 := ((HA2.out.set 0 (.int .i64 n)).set 1 (.int .i64 1)).cell
      refine bodyPost_ret (v := lnk n true) (by simp [results, Tryz.results151, go_sem, lnk, b2i, f0, f1]) rfl ?_
      rw [hs.out]
      refine ⟨rfl, ?_, by simpa using hsize.out⟩
      exact Fr.setNew (Nat.le_refl _) (Fr.setNew (Nat.le_refl _) HF2.out _ _) _ _
    · have hs : Hid (M.sideFor n key = false) := by show _ = _; rw [hside.out, hl, decide_eq_false hk]; rfl
      go_wp2
      have f0 := (HA2.out.set 0 (.int .i64 n)).cell
      have f1 := ((HA2.out.set 0 (.int .i64 n)).set 1 (.int .i64 0)).cell
      refine bodyPost_ret (v := lnk n false) (by simp [results, Tryz.results151, go_sem, lnk, b2i, f0, f1]) rfl ?_
      rw [hs.out]
      refine ⟨rfl, ?_, by simpa using hsize.out⟩
      exact Fr.setNew (Nat.le_refl _) (Fr.setNew (Nat.le_refl _) HF2.out _ _) _ _

theorem LinkFor_calls (h : MAt w l M) (n key : Int) :
    Calls Tryz.prog 151 #[.pointer (some ⟨l.m, 0, none⟩), .int .i64 n, .int .i64 key] w fun e w' => e = .returned (lnk n (M.sideFor n key)) ∧ Fr (fun _ => False) w w' :=
  (LinkFor_size h n key).mono fun _ _ h => ⟨h.1, h.2.1⟩

set_option maxHeartbeats 2000000 in
theorem LeadsTo_calls (h : MAt w l M) (n : Int) (s : Bool) :
    Calls Tryz.prog 181 #[.pointer (some ⟨l.m, 0, none⟩), lnk n s] w fun e w' => e = .returned (.int .i64 (M.leadsTo n s)) ∧ Fr (fun _ => False) w w' := by
  have hs := h.nsmall
  have HB := (show Hid (Boxed _ _ _ _ _ _ _) from Boxed.new h n s)
  have hc := HB.out.mem.hd.cell
  have hb := HB.out.box.cell
  clear h
  unfold lnk
  go_enter Tryz.func181, Tryz.ntmps181
  go_wp2_with fail
  refine (hasLink_calls HB.out.mem n s).mono ?_
  rintro e w1 ⟨rfl, hF⟩
  have HB1 := (show Hid (Boxed _ _ _ _ _ _ _) from HB.out.step hF)
  clear hF HB hc hb
  have hc := HB1.out.mem.hd.cell
  have hb := HB1.out.box.cell
  cases hl : M.hasLink n s
  · have hE : Hid (M.leadsTo n s = -1) := by show _ = _; simp [PMem.leadsTo, hl]
    go_wp2
    go_ret
    exact ⟨ret_int hE.out.symm, HB1.out.fr⟩
  · have hn : M.hasNode n = true := by unfold PMem.hasLink at hl; simp at hl; exact hl.1
    obtain ⟨k, x, rfl, hlt, hx, hnode⟩ := hasNode_get hn
    have hE : Hid (M.leadsTo k s = x.leads s) := by show _ = _; simp [PMem.leadsTo, hl, hnode]
    have c8 := MemAt.node HB1.out.mem hx (j := 8) (u := .int .i64 (x.leads false)) rfl
    have c9 := MemAt.node HB1.out.mem hx (j := 9) (u := .int .i64 (x.leads true)) rfl
    clear hn hx hnode
    cases s
    all_goals
      simp only [b2i_true, b2i_false] at hb ⊢
      go_wp2_with fail
      go_quiet (fail)
      go_wp2
      go_ret
      exact ⟨ret_int hE.out.symm, (HB1.out.drewN _).fr⟩

set_option maxHeartbeats 2000000 in
theorem Lead_calls (h : MAt w l M) (n : Int) (s : Bool) :
    Calls Tryz.prog 137 #[.pointer (some ⟨l.m, 0, none⟩), lnk n s] w fun e w' => e = .returned (.tuple #[]) ∧ MAt w' l (M.lead n s) ∧ MFr l w w' := by
  have hs := h.nsmall
  have hes := h.esmall
  have HB := (show Hid (Boxed _ _ _ _ _ _ _) from Boxed.new h n s)
  have hc := HB.out.mem.hd.cell
  have hb := HB.out.box.cell
  clear h
  unfold lnk
  go_enter Tryz.func137, Tryz.ntmps137
  go_wp2_with fail
  refine (pending_calls HB.out.mem n s).mono ?_
  rintro e w1 ⟨rfl, hF⟩
  have HB1 := (show Hid (Boxed _ _ _ _ _ _ _) from HB.out.step hF)
  clear hF HB hc hb
  have hc := HB1.out.mem.hd.cell
  have hb := HB1.out.box.cell
  go_wp2_with fail
  refine (hasEntry_calls HB1.out.mem _).mono ?_
  rintro e w' ⟨rfl, rfl⟩
  cases he : M.hasEntry (M.pending n s)
  · have hE : Hid (M.lead n s = M) := by show _ = _; simp [PMem.lead, he]
    go_wp2
    refine bodyPost_ret (results_none rfl _ _ _) rfl ?_
    exact ⟨rfl, by rw [hE.out]; exact HB1.out.mem, .of0 HB1.out.fr⟩
  · go_wp2_with fail
    refine (hasLink_calls HB1.out.mem n s).mono ?_
    rintro e w2 ⟨rfl, hF⟩
    have HB2 := (show Hid (Boxed _ _ _ _ _ _ _) from HB1.out.step hF)
    clear hF HB1 hc hb
    have hc := HB2.out.mem.hd.cell
    have hb := HB2.out.box.cell
    cases hl : M.hasLink n s
    · have hE : Hid (M.lead n s = M) := by show _ = _; simp [PMem.lead, he, hl]
      go_wp2
      refine bodyPost_ret (results_none rfl _ _ _) rfl ?_
      exact ⟨rfl, by rw [hE.out]; exact HB2.out.mem, .of0 HB2.out.fr⟩
    · have hn : M.hasNode n = true := by unfold PMem.hasLink at hl; simp at hl; exact hl.1
      have hE : Hid (M.lead n s = M.modN n fun x => { x with leads := upd x.leads s (M.ent (M.pending n s)).dst }) := by show _ = _; simp [PMem.lead, he, hl]
      obtain ⟨k, x, rfl, hlt, hx, hnode⟩ := hasNode_get hn
      obtain ⟨h0, h1⟩ := isIn_iff.1 he
      obtain ⟨q, hq⟩ := Int.eq_ofNat_of_zero_le h0
      rw [hq] at hE ⊢
      have hqlt : q < M.es.length := by omega
      have hy : M.es[q]? = some M.es[q] := List.getElem?_eq_getElem hqlt
      generalize M.es[q] = y at hy
      have hd : M.ent (q : Int) = y := by simp [PMem.ent, hy]
      rw [hd] at hE
      have HX := (show Hid (M.ns[k]? = some x) from hx)
      have c8 := MemAt.node HB2.out.mem hx (j := 8) (u := .int .i64 (x.leads false)) rfl
      have c9 := MemAt.node HB2.out.mem hx (j := 9) (u := .int .i64 (x.leads true)) rfl
      have d4 := MemAt.ent HB2.out.mem hy (j := 4) (u := .int .i64 y.dst) rfl
      have hf := ownsRow_frozen HB2.out.mem.nodes
      clear hn hx hnode hy hd he h0 h1 hq hl
      cases s
      · simp only [b2i_true, b2i_false] at hb ⊢
        go_wp2_with fail
        go_region
        go_wp2
        go_end0
        refine ⟨rfl, by rw [hE.out]; exact MemAt.drew (MAt.nodeSet HX.out _ (MemAt.setNode HB2.out.mem HX.out 8 { x with leads := upd x.leads false y.dst } (.int .i64 y.dst) (by decide) rfl) _ rfl), (MFr.of0 HB2.out.fr).trans ?_⟩
        unfold MFr
        repeat (with_reducible first | refine Fr.setIn (.inl rfl) ?_ _ _ | refine Fr.drewN ?_ _ | refine Fr.drew ?_ | exact Fr.refl _ _)
      · simp only [b2i_true, b2i_false] at hb ⊢
        go_wp2_with fail
        go_region
        go_wp2
        go_end0
        refine ⟨rfl, by rw [hE.out]; exact MemAt.drew (MAt.nodeSet HX.out _ (MemAt.setNode HB2.out.mem HX.out 9 { x with leads := upd x.leads true y.dst } (.int .i64 y.dst) (by decide) rfl) _ rfl), (MFr.of0 HB2.out.fr).trans ?_⟩
        unfold MFr
        repeat (with_reducible first | refine Fr.setIn (.inl rfl) ?_ _ _ | refine Fr.drewN ?_ _ | refine Fr.drew ?_ | exact Fr.refl _ _)

set_option maxHeartbeats 2000000 in
theorem Unpend_calls (h : MAt w l M) (n : Int) (s : Bool) :
    Calls Tryz.prog 189 #[.pointer (some ⟨l.m, 0, none⟩), lnk n s] w fun e w' => e = .returned (.tuple #[]) ∧ MAt w' l (M.unpend n s) ∧ MFr l w w' := by
  have hs := h.esmall
  have HB := (show Hid (Boxed _ _ _ _ _ _ _) from Boxed.new h n s)
  have hc := HB.out.mem.hd.cell
  have hb := HB.out.box.cell
  clear h
  unfold lnk
  go_enter Tryz.func189, Tryz.ntmps189
  go_wp2_with fail
  refine (pending_calls HB.out.mem n s).mono ?_
  rintro e w1 ⟨rfl, hF⟩
  have HB1 := (show Hid (Boxed _ _ _ _ _ _ _) from HB.out.step hF)
  clear hF HB hc hb
  have hc := HB1.out.mem.hd.cell
  have hb := HB1.out.box.cell
  go_wp2_with fail
  refine (hasEntry_calls HB1.out.mem _).mono ?_
  rintro e w' ⟨rfl, rfl⟩
  cases he : M.hasEntry (M.pending n s)
  · have hE : Hid (M.unpend n s = M) := by show _ = _; simp [PMem.unpend, he]
    go_wp2
    refine bodyPost_ret (results_none rfl _ _ _) rfl ?_
    exact ⟨rfl, by rw [hE.out]; exact HB1.out.mem, .of0 HB1.out.fr⟩
  · have hE : Hid (M.unpend n s = M.setE (M.pending n s) PEntry.zero) := by show _ = _; simp [PMem.unpend, he]
    obtain ⟨h0, h1⟩ := isIn_iff.1 he
    obtain ⟨k, hk⟩ := Int.eq_ofNat_of_zero_le h0
    rw [hk] at hE ⊢
    have hlt : k < M.es.length := by omega
    have hx : Hid (M.es[k]? = some M.es[k]) := List.getElem?_eq_getElem hlt
    generalize M.es[k] = x at hx
    have c0 := MemAt.ent HB1.out.mem hx.out (j := 0) (u := .bool x.used) rfl
    have c1 := MemAt.ent HB1.out.mem hx.out (j := 1) (u := .bool x.pending) rfl
    have c2 := MemAt.ent HB1.out.mem hx.out (j := 2) (u := .int .i64 x.src) rfl
    have c3 := MemAt.ent HB1.out.mem hx.out (j := 3) (u := .int .i64 (b2i x.side)) rfl
    have c4 := MemAt.ent HB1.out.mem hx.out (j := 4) (u := .int .i64 x.dst) rfl
    have c5 := MemAt.ent HB1.out.mem hx.out (j := 5) (u := .int .i64 x.stamp) rfl
    rw [Nat.add_zero] at c0
    have hf := ownsRow_frozen HB1.out.mem.ents
    clear he h0 h1 hk
    go_wp2
    go_end0
    rw [hE.out]
    refine ⟨rfl, MemAt.putEnt HB1.out.mem hx.out PEntry.zero, (MFr.of0 HB1.out.fr).trans ?_⟩
    unfold MFr
    repeat (with_reducible first | refine Fr.setIn (.inr rfl) ?_ _ _ | refine Fr.drewN ?_ _ | refine Fr.drew ?_ | exact Fr.refl _ _)

set_option maxHeartbeats 2000000 in
theorem HasPending_calls (h : MAt w l M) (n : Int) (s : Bool) :
    Calls Tryz.prog 127 #[.pointer (some ⟨l.m, 0, none⟩), lnk n s] w fun e w' => e = .returned (.bool (M.hasPending n s)) ∧ Fr (fun _ => False) w w' := by
  have HB := (show Hid (Boxed _ _ _ _ _ _ _) from Boxed.new h n s)
  have hc := HB.out.mem.hd.cell
  have hb := HB.out.box.cell
  clear h
  unfold lnk
  go_enter Tryz.func127, Tryz.ntmps127
  go_wp2_with fail
  refine (pending_calls HB.out.mem n s).mono ?_
  rintro e w1 ⟨rfl, hF⟩
  have HB1 := (show Hid (Boxed _ _ _ _ _ _ _) from HB.out.step hF)
  clear hF HB hc hb
  go_wp2
  go_ret
  exact ⟨ret_bool rfl, HB1.out.fr⟩

end
end Go.Proofs.YtfccelbmacjifaaGreat

