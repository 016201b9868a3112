import Derived.Test.YtfccelbmacjifaaMem
import Derived.BigRegion
namespace Go.Proofs.Ytfccelbmacjifaa
open Go.RowKit
section
variable {w : World} {l : MLay} {M : PMem}

set_option maxHeartbeats 2000000 in
theorem hasLink_calls (h : MAt w l M) (n : Int) (s : Bool) :
    Calls Try.prog 36 #[.pointer (some ⟨l.m, 0, none⟩), lnk n s] w fun e w' => e = .returned (.bool (M.hasLink n s)) ∧ Fr (fun _ => False) w w' := by
  have hs := h.nsmall
  have HB := (show Hid (Boxed _ _ _ _ _ _ _) from Boxed.new h n s)
  have hc := HB.out.mem.hd.cell
  have hb := HB.out.box.cell
  clear h
  unfold lnk
  cases hn : M.hasNode n
  · have hE : Hid (M.hasLink n s = false) := by show _ = _; simp [PMem.hasLink, hn]
    cases s
    all_goals
      simp only [b2i_true, b2i_false] at hb ⊢
      go_enter Try.func36, Try.ntmps36
      go_wp2_with fail
      refine (hasNode_calls HB.out.mem n).mono ?_
      rintro e w' ⟨rfl, rfl⟩
      rw [hn]
      go_wp2
      go_ret
      exact ⟨ret_bool hE.out.symm, HB.out.fr⟩
  · obtain ⟨h0, h1⟩ := isIn_iff.1 hn
    obtain ⟨k, rfl⟩ := Int.eq_ofNat_of_zero_le h0
    have hlt : k < M.ns.length := by omega
    have hx : Hid (M.ns[k]? = some M.ns[k]) := List.getElem?_eq_getElem hlt
    generalize M.ns[k] = x at hx
    have c0 := MemAt.node HB.out.mem hx.out (j := 7) (u := .int .i64 x.links) rfl
    have hE : Hid (M.hasLink k s = decide (b2i s < x.links)) := by show _ = _; simp [PMem.hasLink, hn, PMem.node, hx.out]
    have hn' : Hid (M.hasNode (k : Int) = true) := hn
    clear hn
    by_cases hlk : b2i s < x.links
    · rw [decide_eq_true hlk] at hE
      cases s
      all_goals
        simp only [b2i_true, b2i_false] at hb hc c0 hlk HB ⊢
        go_enter Try.func36, Try.ntmps36
        go_wp2_with fail
        refine (hasNode_calls HB.out.mem k).mono ?_
        rintro e w' ⟨rfl, rfl⟩
        rw [hn'.out]
        go_wp2_with fail
        go_quiet (fail)
        go_wp2
        go_ret
        exact ⟨ret_bool (by first | exact hE.out.symm | (rw [hE.out]; exact decide_eq_true (by omega))), (HB.out.drewN _).fr⟩
    · rw [decide_eq_false hlk] at hE
      cases s
      all_goals
        simp only [b2i_true, b2i_false] at hb hc c0 hlk HB ⊢
        go_enter Try.func36, Try.ntmps36
        go_wp2_with fail
        refine (hasNode_calls HB.out.mem k).mono ?_
        rintro e w' ⟨rfl, rfl⟩
        rw [hn'.out]
        go_wp2_with fail
        go_quiet (fail)
        go_wp2
        go_ret
        exact ⟨ret_bool (by first | exact hE.out.symm | (rw [hE.out]; exact decide_eq_false (by omega))), (HB.out.drewN _).fr⟩

set_option maxHeartbeats 2000000 in
theorem Pend_calls (h : MAt w l M) (n : Int) (s : Bool) (to : Int) :
    Calls Try.prog 33 #[.pointer (some ⟨l.m, 0, none⟩), lnk n s, .int .i64 to] w fun e w' => e = .returned (.tuple #[]) ∧ MAt w' l (M.pend n s to) ∧ MFr l w w' := by
  have hs := h.esmall
  have HB := (show Hid (Boxed _ _ _ _ _ _ _) from Boxed.new h n s)
  have hc := HB.out.mem.hd.cell
  have hb := HB.out.box.cell
  clear h
  unfold lnk
  go_enter Try.func33, Try.ntmps33
  go_wp2_with fail
  refine (freeEntry_calls HB.out.mem).mono ?_
  rintro e w' ⟨rfl, rfl⟩
  go_wp2_with fail
  refine (hasEntry_calls HB.out.mem _).mono ?_
  rintro e w' ⟨rfl, rfl⟩
  cases he : M.hasEntry M.freeEntry
  · have hE : Hid (M.pend n s to = M) := by show _ = _; simp [PMem.pend, he]
    go_wp2
    refine bodyPost_ret (results_none rfl _ _ _) rfl ?_
    exact ⟨rfl, by rw [hE.out]; exact HB.out.mem, .of0 HB.out.fr⟩
  · go_wp2_with fail
    refine (hasLink_calls HB.out.mem n s).mono ?_
    rintro e w1 ⟨rfl, hF⟩
    have HB1 := (show Hid (Boxed _ _ _ _ _ _ _) from HB.out.step hF)
    clear hF HB hc hb
    cases hl : M.hasLink n s
    · have hE : Hid (M.pend n s to = M) := by show _ = _; simp [PMem.pend, he, hl]
      go_wp2
      refine bodyPost_ret (results_none rfl _ _ _) rfl ?_
      exact ⟨rfl, by rw [hE.out]; exact HB1.out.mem, .of0 HB1.out.fr⟩
    · have hE : Hid (M.pend n s to = M.setE M.freeEntry ⟨true, true, n, s, to, 0⟩) := by show _ = _; simp [PMem.pend, he, hl]
      obtain ⟨h0, h1⟩ := isIn_iff.1 he
      obtain ⟨k, hk⟩ := Int.eq_ofNat_of_zero_le h0
      rw [hk] at hE ⊢
      have hlt : k < M.es.length := by omega
      have hx : Hid (M.es[k]? = some M.es[k]) := List.getElem?_eq_getElem hlt
      generalize M.es[k] = x at hx
      have hc := HB1.out.mem.hd.cell
      have hb := HB1.out.box.cell
      have c0 := MemAt.ent HB1.out.mem hx.out (j := 0) (u := .bool x.used) rfl
      have c1 := MemAt.ent HB1.out.mem hx.out (j := 1) (u := .bool x.pending) rfl
      have c2 := MemAt.ent HB1.out.mem hx.out (j := 2) (u := .int .i64 x.src) rfl
      have c3 := MemAt.ent HB1.out.mem hx.out (j := 3) (u := .int .i64 (b2i x.side)) rfl
      have c4 := MemAt.ent HB1.out.mem hx.out (j := 4) (u := .int .i64 x.dst) rfl
      have c5 := MemAt.ent HB1.out.mem hx.out (j := 5) (u := .int .i64 x.stamp) rfl
      have hf := ownsRow_frozen HB1.out.mem.ents
      rw [Nat.add_zero] at c0
      clear he h0 h1 hk
      go_wp2_with fail
      go_region
      go_wp2
      go_end0
      rw [hE.out]
      refine ⟨rfl, ?_, (MFr.of0 HB1.out.fr).trans ?_⟩
      · exact MemAt.drew (MemAt.putEnt HB1.out.mem hx.out ⟨true, true, n, s, to, 0⟩)
      · unfold MFr
        repeat (with_reducible first | refine Fr.setIn (.inr rfl) ?_ _ _ | refine Fr.drewN ?_ _ | refine Fr.drew ?_ | exact Fr.refl _ _)

set_option maxHeartbeats 2000000 in
theorem Stamp_calls (h : MAt w l M) (n : Int) (s : Bool) (st : Int) :
    Calls Try.prog 34 #[.pointer (some ⟨l.m, 0, none⟩), lnk n s, .int .i64 st] w fun e w' => e = .returned (.tuple #[]) ∧ MAt w' l (M.stamp n s st) ∧ MFr l w w' := by
  have hs := h.esmall
  have ap := h.apart
  have HB := (show Hid (Boxed _ _ _ _ _ _ _) from Boxed.new h n s)
  have hc := HB.out.mem.hd.cell
  have hb := HB.out.box.cell
  obtain ⟨ap1, ap2, ap3⟩ := ap
  have ap2' := ap2.symm
  clear h
  unfold lnk
  go_enter Try.func34, Try.ntmps34
  go_wp2_with fail
  refine (pending_calls HB.out.mem n s).mono ?_
  rintro e w1 ⟨rfl, hF⟩
  have HB1 := (show Hid (Boxed _ _ _ _ _ _ _) from HB.out.step hF)
  clear hF HB hc hb
  have hc := HB1.out.mem.hd.cell
  have hb := HB1.out.box.cell
  go_wp2_with fail
  refine (hasEntry_calls HB1.out.mem _).mono ?_
  rintro e w' ⟨rfl, rfl⟩
  cases he : M.hasEntry (M.pending n s)
  · have hE : Hid (M.stamp n s st = M) := by show _ = _; simp [PMem.stamp, he]
    go_wp2
    refine bodyPost_ret (results_none rfl _ _ _) rfl ?_
    exact ⟨rfl, by rw [hE.out]; exact HB1.out.mem, .of0 HB1.out.fr⟩
  · have hE : Hid (M.stamp n s st = M.setE (M.pending n s) { M.ent (M.pending n s) with pending := false, stamp := st }) := by show _ = _; simp [PMem.stamp, he]
    obtain ⟨h0, h1⟩ := isIn_iff.1 he
    obtain ⟨k, hk⟩ := Int.eq_ofNat_of_zero_le h0
    rw [hk] at hE ⊢
    have hlt : k < M.es.length := by omega
    have hx : Hid (M.es[k]? = some M.es[k]) := List.getElem?_eq_getElem hlt
    generalize M.es[k] = x at hx
    have hE' : Hid (M.stamp n s st = { M with es := M.es.set k { x with pending := false, stamp := st } }) := by show _ = _; rw [hE.out]; simp [PMem.setE, PMem.ent, hx.out]
    have c1 := MemAt.ent HB1.out.mem hx.out (j := 1) (u := .bool x.pending) rfl
    have c5 := MemAt.ent HB1.out.mem hx.out (j := 5) (u := .int .i64 x.stamp) rfl
    have hf := ownsRow_frozen HB1.out.mem.ents
    clear he h0 h1 hk hE
    go_wp2
    go_end0
    rw [hE'.out]
    refine ⟨rfl, ?_, (MFr.of0 HB1.out.fr).trans ?_⟩
    · have a1 := MemAt.setEnt HB1.out.mem hx.out 1 { x with pending := false } (.bool false) (by decide) rfl
      have a2 := a1.setEnt (get_set_same hx.out) 5 { x with pending := false, stamp := st } (.int .i64 st) (by decide) rfl
      rw [List.set_set] at a2
      exact a2
    · unfold MFr
      repeat (with_reducible first | refine Fr.setIn (.inr rfl) ?_ _ _ | refine Fr.drewN ?_ _ | refine Fr.drew ?_ | exact Fr.refl _ _)

set_option maxHeartbeats 2000000 in
theorem StampNew_calls (h : MAt w l M) (n st : Int) :
    Calls Try.prog 27 #[.pointer (some ⟨l.m, 0, none⟩), .int .i64 n, .int .i64 st] w fun e w' => e = .returned (.tuple #[]) ∧ MAt w' l (M.stampNew n st) ∧ MFr l w w' := by
  have H := (show Hid (MAt w l M) from h)
  clear h
  go_enter Try.func27, Try.ntmps27
  go_wp2_with fail
  go_loopw [6] (fun i wr => (i = .int .i64 0 ∧ Hid (wr = w)) ∨ (i = .int .i64 1 ∧ Hid (MAt wr l (M.stamp n false st)) ∧ Hid (MFr l w wr)) ∨ (i = .int .i64 2 ∧ Hid (MAt wr l (M.stampNew n st)) ∧ Hid (MFr l w wr))) (fun i _ => 2 - (intOf i).toNat)
  case atStart => exact .inl ⟨rfl, rfl⟩
  case round =>
    rcases hrel with ⟨rfl, hw⟩ | ⟨rfl, H1, F1⟩ | ⟨rfl, H2, F2⟩
    · have hw' := hw.out
      subst hw'
      clear hw
      go_wp2_with fail
      refine (Stamp_calls H.out n false st).mono ?_
      rintro e w1 ⟨rfl, h1, h2⟩
      have H1 := (show Hid (MAt _ _ _) from h1)
      have F1 := (show Hid (MFr _ _ _) from h2)
      clear h1 h2
      go_wp2
      go_roundw
      case rel => exact .inr (.inl ⟨by go_num, H1, F1⟩)
      case measure => simp [intOf]
    · go_wp2_with fail
      refine (Stamp_calls H1.out n true st).mono ?_
      rintro e w1 ⟨rfl, h1, h2⟩
      have H2 := (show Hid (MAt _ _ _) from h1)
      have F2 := (show Hid (MFr _ _ _) from F1.out.trans h2)
      clear h1 h2
      go_wp2
      go_roundw
      case rel => exact .inr (.inr ⟨by go_num, H2, F2⟩)
      case measure => simp [intOf]
    · go_wp2
      go_end0
      exact ⟨rfl, H2.out, F2.out⟩

/-- A node is turned. -/
theorem MAt.nodeSet {w' : World} {k : Nat} {x : PNode} (hx : M.ns[k]? = some x) (y : PNode) (h : MemAt w' l.m l.nb l.ncap l.eb l.ecap (M.ns.set k y) M.es) (g : PNode → PNode) (hg : g x = y) : MAt w' l (M.modN k g) := by
  have e : M.modN k g = { M with ns := M.ns.set k y } := by
    unfold PMem.modN
    have : M.hasNode (k : Int) = true := by
      have := (List.getElem?_eq_some_iff.1 hx).1
      exact isIn_true (by omega)
    rw [this]
    simp only [if_pos, Int.toNat_natCast]
    congr 1
    apply List.ext_getElem?
    intro j
    rw [List.getElem?_modify, List.getElem?_set]
    by_cases hj : k = j
    · subst hj
      obtain ⟨h1, h2⟩ := List.getElem?_eq_some_iff.1 hx
      simp [h1, h2, hg]
    · simp [hj]
  rw [e]; exact h

set_option maxHeartbeats 4000000 in
theorem AddLink_calls (h : MAt w l M) (n to : Int) :
    Calls Try.prog 26 #[.pointer (some ⟨l.m, 0, none⟩), .int .i64 n, .int .i64 to] w fun e w' => e = .returned (.tuple #[]) ∧ MAt w' l (M.addLink n to) ∧ MFr l w w' := by
  have hs := h.nsmall
  have hc := h.hd.cell
  obtain ⟨ap1, ap2, ap3⟩ := h.apart
  have ap1' := ap1.symm
  have H := (show Hid (MAt w l M) from h)
  clear h
  go_enter Try.func26, Try.ntmps26
  go_wp2_with fail
  refine (hasNode_calls H.out n).mono ?_
  rintro e w' ⟨rfl, rfl⟩
  cases hn : M.hasNode n
  · have hE : Hid (M.addLink n to = M) := by show _ = _; simp [PMem.addLink, hn]
    go_wp2
    refine bodyPost_ret (results_none rfl _ _ _) rfl ?_
    exact ⟨rfl, by rw [hE.out]; exact H.out, .of0 (Fr.refl _ _)⟩
  · go_wp2_with fail
    refine (freeEntry_calls H.out).mono ?_
    rintro e w' ⟨rfl, rfl⟩
    cases hfe : (M.freeEntry == -1)
    · obtain ⟨h0, h1⟩ := isIn_iff.1 hn
      obtain ⟨k, rfl⟩ := Int.eq_ofNat_of_zero_le h0
      have hlt : k < M.ns.length := by omega
      have hx : Hid (M.ns[k]? = some M.ns[k]) := List.getElem?_eq_getElem hlt
      generalize M.ns[k] = x at hx
      have c7 := MemAt.node H.out hx.out (j := 7) (u := .int .i64 x.links) rfl
      have c8 := MemAt.node H.out hx.out (j := 8) (u := .int .i64 (x.leads false)) rfl
      have c9 := MemAt.node H.out hx.out (j := 9) (u := .int .i64 (x.leads true)) rfl
      have hf := ownsRow_frozen H.out.nodes
      have hnode : Hid (M.node k = x) := by show _ = _; simp [PMem.node, hn, hx.out]
      have hn' := (show Hid (M.hasNode (k : Int) = true) from hn)
      clear hn h0 h1
      match hlk : x.links with
      | 0 =>
        have hE : Hid (M.addLink k to = (M.modN k (linked false to)).pend k false to) := by
          show _ = _
          have : (M.freeEntry != -1) = true := by simp [bne, hfe]
          simp [PMem.addLink, hn'.out, this, hnode.out, hlk]
        rw [hlk] at c7
        go_wp2_with fail
        have a1 := MemAt.setNode H.out hx.out 7 { x with links := 1 } (.int .i64 1) (by decide) rfl
        have a2 := a1.setNode (get_set_same hx.out) 8 { x with links := 1, leads := upd x.leads false to } (.int .i64 to) (by decide) rfl
        rw [List.set_set] at a2
        have a3 := MAt.nodeSet hx.out _ a2 (linked false to) (by simp [linked, hlk])
        refine (Pend_calls a3 k false to).mono ?_
        rintro e w1 ⟨rfl, h1, h2⟩
        have H1 := (show Hid (MAt _ _ _) from h1)
        have F1 := (show Hid (MFr _ _ _) from h2)
        clear h1 h2 a1 a2 a3
        go_wp2
        go_end0
        refine ⟨rfl, by rw [hE.out]; exact H1.out, Fr.trans ?_ F1.out⟩
        repeat (with_reducible first | refine Fr.setIn (.inl rfl) ?_ _ _ | refine Fr.drewN ?_ _ | refine Fr.drew ?_ | exact Fr.refl _ _)
      | 1 =>
        have hE : Hid (M.addLink k to = (M.modN k (linked true to)).pend k true to) := by
          show _ = _
          have : (M.freeEntry != -1) = true := by simp [bne, hfe]
          simp [PMem.addLink, hn'.out, this, hnode.out, hlk]
        rw [hlk] at c7
        go_wp2_with fail
        have a1 := MemAt.setNode H.out hx.out 7 { x with links := 2 } (.int .i64 2) (by decide) rfl
        have a2 := a1.setNode (get_set_same hx.out) 9 { x with links := 2, leads := upd x.leads true to } (.int .i64 to) (by decide) rfl
        rw [List.set_set] at a2
        have a3 := MAt.nodeSet hx.out _ a2 (linked true to) (by simp [linked, hlk])
        refine (Pend_calls a3 k true to).mono ?_
        rintro e w1 ⟨rfl, h1, h2⟩
        have H1 := (show Hid (MAt _ _ _) from h1)
        have F1 := (show Hid (MFr _ _ _) from h2)
        clear h1 h2 a1 a2 a3
        go_wp2
        go_end0
        refine ⟨rfl, by rw [hE.out]; exact H1.out, Fr.trans ?_ F1.out⟩
        repeat (with_reducible first | refine Fr.setIn (.inl rfl) ?_ _ _ | refine Fr.drewN ?_ _ | refine Fr.drew ?_ | exact Fr.refl _ _)
      | q + 2 =>
        have hE : Hid (M.addLink k to = M) := by show _ = _; simp [PMem.addLink, hnode.out, hlk]
        rw [hlk] at c7
        have hq : Hid (((q : Int) + 2 < 0) = False) := by show _ = _; simp; omega
        go_wp2
        refine bodyPost_ret (results_none rfl _ _ _) rfl ?_
        exact ⟨rfl, by rw [hE.out]; exact H.out, .of0 (Fr.refl _ _)⟩
    · have hE : Hid (M.addLink n to = M) := by show _ = _; simp [PMem.addLink, bne, hfe]
      go_wp2
      refine bodyPost_ret (results_none rfl _ _ _) rfl ?_
      exact ⟨rfl, by rw [hE.out]; exact H.out, .of0 (Fr.refl _ _)⟩
end
end Go.Proofs.Ytfccelbmacjifaa
