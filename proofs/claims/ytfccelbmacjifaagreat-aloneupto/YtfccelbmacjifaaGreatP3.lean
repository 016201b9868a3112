import Derived.Test.YtfccelbmacjifaaGreatP2
import Derived.Test.YtfccelbmacjifaaGreatP0
namespace Go.Proofs.YtfccelbmacjifaaGreat
open Go.RowKit
section
variable {w : World} {l : MLay} {M : PMem}
def nodeVal (x : PNode) : Value := .agg #[.int .i64 x.key, .int .i64 x.value, .bool x.dead, .bool x.retired, .int .i64 x.retiredAt, .bool x.used, .int .i64 x.holder, .int .i64 x.links, .int .i64 (x.leads false), .int .i64 (x.leads true)]

set_option maxHeartbeats 2000000 in
theorem Node_size (h : MAt w l M) (n : Int) :
    Calls Tryz.prog 149 #[.pointer (some ⟨l.m, 0, none⟩), .int .i64 n] w fun e w' => e = .returned (nodeVal (M.node n)) ∧ Fr (fun _ => False) w w' ∧ w'.heap.size = w.heap.size + 1 := by
  have hs := h.nsmall
  have hm := h.hd.lt
  have hnb := ownsRow_lt0 h.nodes
  have H := (show Hid (MAt w l M) from h)
  have hF : Fr (fun _ => False) w (w.alloc (.cells PNode.zero.cells.toArray 166)) := (Fr.refl _ _).alloc _
  have H1 := (show Hid (MAt _ l M) from MAt.same0 h hF)
  have hA := At.new w PNode.zero.cells 166
  have hz := hA.frozen
  have hac := hA.cell
  have hc := H1.out.hd.cell
  have HF := (show Hid (Fr _ _ _) from hF)
  clear h hF hA
  simp only [PNode.zero, PNode.cells, Int.natCast_zero] at hz hac hc H1 HF
  go_enter Tryz.func149, Tryz.ntmps149
  go_wp2_with fail
  refine (hasNode_calls H1.out n).mono ?_
  rintro e w' ⟨rfl, rfl⟩
  cases hn : M.hasNode n
  · have hE : Hid (M.node n = PNode.zero) := node_no hn
    go_wp2
    refine bodyPost_ret (v := nodeVal PNode.zero) (by simp [results, Tryz.results149, go_sem, nodeVal, PNode.zero]) rfl ?_
    rw [hE.out]
    refine ⟨rfl, ?_, by simp⟩
    repeat (with_reducible first | refine Fr.alloc ?_ _ | exact Fr.refl _ _)
  · obtain ⟨k, x, rfl, hlt, hx, hE⟩ := hasNode_get hn
    have HE := (show Hid (M.node k = x) from hE)
    have c0 := MemAt.node H1.out hx (j := 0) (u := .int .i64 x.key) rfl
    have c1 := MemAt.node H1.out hx (j := 1) (u := .int .i64 x.value) rfl
    have c2 := MemAt.node H1.out hx (j := 2) (u := .bool x.dead) rfl
    have c3 := MemAt.node H1.out hx (j := 3) (u := .bool x.retired) rfl
    have c4 := MemAt.node H1.out hx (j := 4) (u := .int .i64 x.retiredAt) rfl
    have c5 := MemAt.node H1.out hx (j := 5) (u := .bool x.used) rfl
    have c6 := MemAt.node H1.out hx (j := 6) (u := .int .i64 x.holder) rfl
    have c7 := MemAt.node H1.out hx (j := 7) (u := .int .i64 x.links) rfl
    have c8 := MemAt.node H1.out hx (j := 8) (u := .int .i64 (x.leads false)) rfl
    have c9 := MemAt.node H1.out hx (j := 9) (u := .int .i64 (x.leads true)) rfl
    rw [Nat.add_zero] at c0
    clear hx hE hn
    go_wp2
    refine bodyPost_ret (v := nodeVal x) (by simp [results, Tryz.results149, go_sem, nodeVal]) rfl ?_
    rw [HE.out]
    refine ⟨rfl, ?_, by simp⟩
    repeat (with_reducible first | refine Fr.alloc ?_ _ | exact Fr.refl _ _)

theorem Node_calls (h : MAt w l M) (n : Int) :
    Calls Tryz.prog 149 #[.pointer (some ⟨l.m, 0, none⟩), .int .i64 n] w fun e w' => e = .returned (nodeVal (M.node n)) ∧ Fr (fun _ => False) w w' :=
  (Node_size h n).mono fun _ _ h => ⟨h.1, h.2.1⟩

set_option maxHeartbeats 1000000 in
theorem IsInner_size (x : PNode) (w : World) :
    Calls Tryz.prog 157 #[nodeVal x] w fun e w' => e = .returned (.bool (x.links == 2)) ∧ Fr (fun _ => False) w w' ∧ w'.heap.size = w.heap.size + 1 := by
  have hA := At.new w x.cells 166
  have hac := hA.cell
  clear hA
  simp only [PNode.cells] at hac
  have hE : Hid (((x.links : Int) == 2) = (x.links == 2)) := by
    show _ = _
    cases h : (x.links == 2)
    · rw [beq_eq_false_iff_ne] at h ⊢; omega
    · rw [beq_iff_eq] at h ⊢; omega
  unfold nodeVal
  cases hq : ((x.links : Int) == 2)
  all_goals
    go_enter Tryz.func157, Tryz.ntmps157
    go_wp2
    go_ret
    exact ⟨ret_bool (by rw [← hE.out]; first | rfl | exact hq.symm | exact hq), (Fr.refl _ _).alloc _, by simp⟩
theorem IsInner_calls (x : PNode) (w : World) :
    Calls Tryz.prog 157 #[nodeVal x] w fun e w' => e = .returned (.bool (x.links == 2)) ∧ Fr (fun _ => False) w w' :=
  (IsInner_size x w).mono fun _ _ h => ⟨h.1, h.2.1⟩
theorem field_key (x : PNode) : ∀ w : World, (Instr.field 166 (nodeVal x) 0).run Tryz.prog w = .ok (.int .i64 x.key) w := fun _ => by kernel_rfl
theorem field_value (x : PNode) : ∀ w : World, (Instr.field 166 (nodeVal x) 1).run Tryz.prog w = .ok (.int .i64 x.value) w := fun _ => by kernel_rfl
theorem field_dead (x : PNode) : ∀ w : World, (Instr.field 166 (nodeVal x) 2).run Tryz.prog w = .ok (.bool x.dead) w := fun _ => by kernel_rfl
theorem field_retiredAt (x : PNode) : ∀ w : World, (Instr.field 166 (nodeVal x) 4).run Tryz.prog w = .ok (.int .i64 x.retiredAt) w := fun _ => by kernel_rfl
end
end Go.Proofs.YtfccelbmacjifaaGreat

set_option linter.unusedSimpArgs false
namespace Go.Proofs.YtfccelbmacjifaaGreat
open Go.RowKit
section
variable {w : World} {l : MLay} {M : PMem}

set_option maxHeartbeats 4000000 in
theorem LinkFor_size (h : MAt w l M) (n key : Int) :
    Calls Tryz.prog 151 #[.pointer (some ⟨l.m, 0, none⟩), .int .i64 n, .int .i64 key] w fun e w' => e = .returned (lnk n (M.sideFor n key)) ∧ Fr (fun _ => False) w w' ∧ w'.heap.size = w.heap.size + 4 := by
  have H := (show Hid (MAt w l M) from h)
  have hF : Fr (fun _ => False) w (w.alloc (.cells #[.int .i64 0, .int .i64 0] 109)) := (Fr.refl _ _).alloc _
  have H1 := (show Hid (MAt _ l M) from MAt.same0 h hF)
  have hA := At.new w [.int .i64 0, .int .i64 0] 109
  have HA := (show Hid (At _ _ _ _) from hA)
  have HF := (show Hid (Fr _ _ _) from hF)
  clear h hF hA
  go_enter Tryz.func151, Tryz.ntmps151
  go_wp2_with fail
  refine (Node_size H1.out n).mono ?_
  rintro e w1 ⟨rfl, hF1, hz1⟩
  have HZ1 := (show Hid (w1.heap.size = _) from hz1)
  clear hz1
  have hA1 := hF1.at HA.out (fun h => h)
  have hsz := hA1.lt
  have HF1 := (show Hid (Fr _ w w1) from HF.out.trans hF1)
  have HA1 := (show Hid (At _ _ _ _) from hA1)
  generalize hx : M.node n = x
  have hside : Hid (M.sideFor n key = ((x.links == 2) && decide (x.key ≤ key))) := by show _ = _; unfold PMem.sideFor; rw [hx]
  unfold nodeVal
  clear hF1 HA HF H1 H hA1 hx
  go_wp2_with fail
  refine (IsInner_size x _).mono ?_
  rintro e w2 ⟨rfl, hF2, hz2'⟩
  have hsize : Hid (w2.heap.size = w.heap.size + 4) := by
    show _ = _
    have hz1 := HZ1.out
    simp only [World.size_alloc] at hz1 hz2'
    omega
  clear HZ1 hz2'
  have hA2 := hF2.at (HA1.out.alloc _) (fun h => h)
  have hB2 := hF2.at (At.new w1 x.cells 166) (fun h => h)
  have hz2 := hA2.frozen
  have hc2 := hA2.cell
  have hb2 := hB2.cell
  simp only [PNode.cells] at hb2
  have HF2 := (show Hid (Fr _ w w2) from (HF1.out.alloc _).trans hF2)
  have HA2 := (show Hid (At _ _ _ _) from hA2)
  have hsz2 : w.heap.size ≤ w.heap.size := Nat.le_refl _
  clear hF2 hA2 hB2 HF1 HA1
  cases hl : (x.links == 2)
  · have hs : Hid (M.sideFor n key = false) := by show _ = _; rw [hside.out, hl]; rfl
    go_wp2
    have f0 := (HA2.out.set 0 (.int .i64 n)).cell
    have f1 := ((HA2.out.set 0 (.int .i64 n)).set 1 (.int .i64 0)).cell
    refine bodyPost_ret (v := lnk n false) (by simp [results, Tryz.results151, go_sem, lnk, b2i, f0, f1]) rfl ?_
    rw [hs.out]
    refine ⟨rfl, ?_, by simpa using hsize.out⟩
    exact Fr.setNew (Nat.le_refl _) (Fr.setNew (Nat.le_refl _) HF2.out _ _) _ _
  · by_cases hk : x.key ≤ key
    · have hs : Hid (M.sideFor n key = true) := by show _ = _; rw [hside.out, hl, decide_eq_true hk]; rfl
      go_wp2
      have f0 := (HA2.out.set 0 (.int .i64 n)).cell
      have f1 := ((HA2.out.set 0 (.int .i64 n)).set 1 (.int .i64 1)).cell
      refine bodyPost_ret (v := lnk n true) (by simp [results, Tryz.results151, go_sem, lnk, b2i, f0, f1]) rfl ?_
      rw [hs.out]
      refine ⟨rfl, ?_, by simpa using hsize.out⟩
      exact Fr.setNew (Nat.le_refl _) (Fr.setNew (Nat.le_refl _) HF2.out _ _) _ _
    · have hs : Hid (M.sideFor n key = false) := by show _ = _; rw [hside.out, hl, decide_eq_false hk]; rfl
      go_wp2
      have f0 := (HA2.out.set 0 (.int .i64 n)).cell
      have f1 := ((HA2.out.set 0 (.int .i64 n)).set 1 (.int .i64 0)).cell
      refine bodyPost_ret (v := lnk n false) (by simp [results, Tryz.results151, go_sem, lnk, b2i, f0, f1]) rfl ?_
      rw [hs.out]
      refine ⟨rfl, ?_, by simpa using hsize.out⟩
      exact Fr.setNew (Nat.le_refl _) (Fr.setNew (Nat.le_refl _) HF2.out _ _) _ _

theorem LinkFor_calls (h : MAt w l M) (n key : Int) :
    Calls Tryz.prog 151 #[.pointer (some ⟨l.m, 0, none⟩), .int .i64 n, .int .i64 key] w fun e w' => e = .returned (lnk n (M.sideFor n key)) ∧ Fr (fun _ => False) w w' :=
  (LinkFor_size h n key).mono fun _ _ h => ⟨h.1, h.2.1⟩

set_option maxHeartbeats 2000000 in
theorem LeadsTo_calls (h : MAt w l M) (n : Int) (s : Bool) :
    Calls Tryz.prog 181 #[.pointer (some ⟨l.m, 0, none⟩), lnk n s] w fun e w' => e = .returned (.int .i64 (M.leadsTo n s)) ∧ Fr (fun _ => False) w w' := by
  have hs := h.nsmall
  have HB := (show Hid (Boxed _ _ _ _ _ _ _) from Boxed.new h n s)
  have hc := HB.out.mem.hd.cell
  have hb := HB.out.box.cell
  clear h
  unfold lnk
  go_enter Tryz.func181, Tryz.ntmps181
  go_wp2_with fail
  refine (hasLink_calls HB.out.mem n s).mono ?_
  rintro e w1 ⟨rfl, hF⟩
  have HB1 := (show Hid (Boxed _ _ _ _ _ _ _) from HB.out.step hF)
  clear hF HB hc hb
  have hc := HB1.out.mem.hd.cell
  have hb := HB1.out.box.cell
  cases hl : M.hasLink n s
  · have hE : Hid (M.leadsTo n s = -1) := by show _ = _; simp [PMem.leadsTo, hl]
    go_wp2
    go_ret
    exact ⟨ret_int hE.out.symm, HB1.out.fr⟩
  · have hn : M.hasNode n = true := by unfold PMem.hasLink at hl; simp at hl; exact hl.1
    obtain ⟨k, x, rfl, hlt, hx, hnode⟩ := hasNode_get hn
    have hE : Hid (M.leadsTo k s = x.leads s) := by show _ = _; simp [PMem.leadsTo, hl, hnode]
    have c8 := MemAt.node HB1.out.mem hx (j := 8) (u := .int .i64 (x.leads false)) rfl
    have c9 := MemAt.node HB1.out.mem hx (j := 9) (u := .int .i64 (x.leads true)) rfl
    clear hn hx hnode
    cases s
    all_goals
      simp only [b2i_true, b2i_false] at hb ⊢
      go_wp2_with fail
      go_quiet (fail)
      go_wp2
      go_ret
      exact ⟨ret_int hE.out.symm, (HB1.out.drewN _).fr⟩

set_option maxHeartbeats 2000000 in
theorem Lead_calls (h : MAt w l M) (n : Int) (s : Bool) :
    Calls Tryz.prog 137 #[.pointer (some ⟨l.m, 0, none⟩), lnk n s] w fun e w' => e = .returned (.tuple #[]) ∧ MAt w' l (M.lead n s) ∧ MFr l w w' := by
  have hs := h.nsmall
  have hes := h.esmall
  have HB := (show Hid (Boxed _ _ _ _ _ _ _) from Boxed.new h n s)
  have hc := HB.out.mem.hd.cell
  have hb := HB.out.box.cell
  clear h
  unfold lnk
  go_enter Tryz.func137, Tryz.ntmps137
  go_wp2_with fail
  refine (pending_calls HB.out.mem n s).mono ?_
  rintro e w1 ⟨rfl, hF⟩
  have HB1 := (show Hid (Boxed _ _ _ _ _ _ _) from HB.out.step hF)
  clear hF HB hc hb
  have hc := HB1.out.mem.hd.cell
  have hb := HB1.out.box.cell
  go_wp2_with fail
  refine (hasEntry_calls HB1.out.mem _).mono ?_
  rintro e w' ⟨rfl, rfl⟩
  cases he : M.hasEntry (M.pending n s)
  · have hE : Hid (M.lead n s = M) := by show _ = _; simp [PMem.lead, he]
    go_wp2
    refine bodyPost_ret (results_none rfl _ _ _) rfl ?_
    exact ⟨rfl, by rw [hE.out]; exact HB1.out.mem, .of0 HB1.out.fr⟩
  · go_wp2_with fail
    refine (hasLink_calls HB1.out.mem n s).mono ?_
    rintro e w2 ⟨rfl, hF⟩
    have HB2 := (show Hid (Boxed _ _ _ _ _ _ _) from HB1.out.step hF)
    clear hF HB1 hc hb
    have hc := HB2.out.mem.hd.cell
    have hb := HB2.out.box.cell
    cases hl : M.hasLink n s
    · have hE : Hid (M.lead n s = M) := by show _ = _; simp [PMem.lead, he, hl]
      go_wp2
      refine bodyPost_ret (results_none rfl _ _ _) rfl ?_
      exact ⟨rfl, by rw [hE.out]; exact HB2.out.mem, .of0 HB2.out.fr⟩
    · have hn : M.hasNode n = true := by unfold PMem.hasLink at hl; simp at hl; exact hl.1
      have hE : Hid (M.lead n s = M.modN n fun x => { x with leads := upd x.leads s (M.ent (M.pending n s)).dst }) := by show _ = _; simp [PMem.lead, he, hl]
      obtain ⟨k, x, rfl, hlt, hx, hnode⟩ := hasNode_get hn
      obtain ⟨h0, h1⟩ := isIn_iff.1 he
      obtain ⟨q, hq⟩ := Int.eq_ofNat_of_zero_le h0
      rw [hq] at hE ⊢
      have hqlt : q < M.es.length := by omega
      have hy : M.es[q]? = some M.es[q] := List.getElem?_eq_getElem hqlt
      generalize M.es[q] = y at hy
      have hd : M.ent (q : Int) = y := by simp [PMem.ent, hy]
      rw [hd] at hE
      have HX := (show Hid (M.ns[k]? = some x) from hx)
      have c8 := MemAt.node HB2.out.mem hx (j := 8) (u := .int .i64 (x.leads false)) rfl
      have c9 := MemAt.node HB2.out.mem hx (j := 9) (u := .int .i64 (x.leads true)) rfl
      have d4 := MemAt.ent HB2.out.mem hy (j := 4) (u := .int .i64 y.dst) rfl
      have hf := ownsRow_frozen HB2.out.mem.nodes
      clear hn hx hnode hy hd he h0 h1 hq hl
      cases s
      · simp only [b2i_true, b2i_false] at hb ⊢
        go_wp2_with fail
        go_region
        go_wp2
        go_end0
        refine ⟨rfl, by rw [hE.out]; exact MemAt.drew (MAt.nodeSet HX.out _ (MemAt.setNode HB2.out.mem HX.out 8 { x with leads := upd x.leads false y.dst } (.int .i64 y.dst) (by decide) rfl) _ rfl), (MFr.of0 HB2.out.fr).trans ?_⟩
        unfold MFr
        repeat (with_reducible first | refine Fr.setIn (.inl rfl) ?_ _ _ | refine Fr.drewN ?_ _ | refine Fr.drew ?_ | exact Fr.refl _ _)
      · simp only [b2i_true, b2i_false] at hb ⊢
        go_wp2_with fail
        go_region
        go_wp2
        go_end0
        refine ⟨rfl, by rw [hE.out]; exact MemAt.drew (MAt.nodeSet HX.out _ (MemAt.setNode HB2.out.mem HX.out 9 { x with leads := upd x.leads true y.dst } (.int .i64 y.dst) (by decide) rfl) _ rfl), (MFr.of0 HB2.out.fr).trans ?_⟩
        unfold MFr
        repeat (with_reducible first | refine Fr.setIn (.inl rfl) ?_ _ _ | refine Fr.drewN ?_ _ | refine Fr.drew ?_ | exact Fr.refl _ _)

set_option maxHeartbeats 2000000 in
theorem Unpend_calls (h : MAt w l M) (n : Int) (s : Bool) :
    Calls Tryz.prog 189 #[.pointer (some ⟨l.m, 0, none⟩), lnk n s] w fun e w' => e = .returned (.tuple #[]) ∧ MAt w' l (M.unpend n s) ∧ MFr l w w' := by
  have hs := h.esmall
  have HB := (show Hid (Boxed _ _ _ _ _ _ _) from Boxed.new h n s)
  have hc := HB.out.mem.hd.cell
  have hb := HB.out.box.cell
  clear h
  unfold lnk
  go_enter Tryz.func189, Tryz.ntmps189
  go_wp2_with fail
  refine (pending_calls HB.out.mem n s).mono ?_
  rintro e w1 ⟨rfl, hF⟩
  have HB1 := (show Hid (Boxed _ _ _ _ _ _ _) from HB.out.step hF)
  clear hF HB hc hb
  have hc := HB1.out.mem.hd.cell
  have hb := HB1.out.box.cell
  go_wp2_with fail
  refine (hasEntry_calls HB1.out.mem _).mono ?_
  rintro e w' ⟨rfl, rfl⟩
  cases he : M.hasEntry (M.pending n s)
  · have hE : Hid (M.unpend n s = M) := by show _ = _; simp [PMem.unpend, he]
    go_wp2
    refine bodyPost_ret (results_none rfl _ _ _) rfl ?_
    exact ⟨rfl, by rw [hE.out]; exact HB1.out.mem, .of0 HB1.out.fr⟩
  · have hE : Hid (M.unpend n s = M.setE (M.pending n s) PEntry.zero) := by show _ = _; simp [PMem.unpend, he]
    obtain ⟨h0, h1⟩ := isIn_iff.1 he
    obtain ⟨k, hk⟩ := Int.eq_ofNat_of_zero_le h0
    rw [hk] at hE ⊢
    have hlt : k < M.es.length := by omega
    have hx : Hid (M.es[k]? = some M.es[k]) := List.getElem?_eq_getElem hlt
    generalize M.es[k] = x at hx
    have c0 := MemAt.ent HB1.out.mem hx.out (j := 0) (u := .bool x.used) rfl
    have c1 := MemAt.ent HB1.out.mem hx.out (j := 1) (u := .bool x.pending) rfl
    have c2 := MemAt.ent HB1.out.mem hx.out (j := 2) (u := .int .i64 x.src) rfl
    have c3 := MemAt.ent HB1.out.mem hx.out (j := 3) (u := .int .i64 (b2i x.side)) rfl
    have c4 := MemAt.ent HB1.out.mem hx.out (j := 4) (u := .int .i64 x.dst) rfl
    have c5 := MemAt.ent HB1.out.mem hx.out (j := 5) (u := .int .i64 x.stamp) rfl
    rw [Nat.add_zero] at c0
    have hf := ownsRow_frozen HB1.out.mem.ents
    clear he h0 h1 hk
    go_wp2
    go_end0
    rw [hE.out]
    refine ⟨rfl, MemAt.putEnt HB1.out.mem hx.out PEntry.zero, (MFr.of0 HB1.out.fr).trans ?_⟩
    unfold MFr
    repeat (with_reducible first | refine Fr.setIn (.inr rfl) ?_ _ _ | refine Fr.drewN ?_ _ | refine Fr.drew ?_ | exact Fr.refl _ _)

set_option maxHeartbeats 2000000 in
theorem HasPending_calls (h : MAt w l M) (n : Int) (s : Bool) :
    Calls Tryz.prog 127 #[.pointer (some ⟨l.m, 0, none⟩), lnk n s] w fun e w' => e = .returned (.bool (M.hasPending n s)) ∧ Fr (fun _ => False) w w' := by
  have HB := (show Hid (Boxed _ _ _ _ _ _ _) from Boxed.new h n s)
  have hc := HB.out.mem.hd.cell
  have hb := HB.out.box.cell
  clear h
  unfold lnk
  go_enter Tryz.func127, Tryz.ntmps127
  go_wp2_with fail
  refine (pending_calls HB.out.mem n s).mono ?_
  rintro e w1 ⟨rfl, hF⟩
  have HB1 := (show Hid (Boxed _ _ _ _ _ _ _) from HB.out.step hF)
  clear hF HB hc hb
  go_wp2
  go_ret
  exact ⟨ret_bool rfl, HB1.out.fr⟩

set_option maxHeartbeats 1000000 in
theorem Other_calls (n : Int) (s : Bool) (w : World) :
    Calls Tryz.prog 188 #[lnk n s] w fun e w' => e = .returned (lnk n (!s)) ∧ Fr (fun _ => False) w w' := by
  have hA := (At.new w [.int .i64 n, .int .i64 (b2i s)] 109).cell
  unfold lnk
  cases s
  all_goals
    simp only [b2i_true, b2i_false] at hA ⊢
    go_enter Tryz.func188, Tryz.ntmps188
    go_wp2
    refine bodyPost_ret (v := .agg #[.int .i64 n, _]) (by simp [results, Tryz.results188, go_sem, b2i]; rfl) rfl ?_
    refine ⟨by simp [b2i], ?_⟩
    repeat (with_reducible first | refine Fr.alloc ?_ _ | exact Fr.refl _ _)
end
end Go.Proofs.YtfccelbmacjifaaGreat

set_option linter.unusedSimpArgs false
namespace Go.Proofs.YtfccelbmacjifaaGreat
open Go.RowKit
section
variable {w : World} {l : MLay} {M : PMem}
def entVal (x : PEntry) : Value := .agg #[.bool x.used, .bool x.pending, .int .i64 x.src, .int .i64 (b2i x.side), .int .i64 x.dst, .int .i64 x.stamp]
set_option maxHeartbeats 2000000 in
theorem isStamped_calls (x : PEntry) (n : Int) (s : Bool) (w : World) :
    Calls Tryz.prog 152 #[entVal x, lnk n s] w fun e w' => e = .returned (.bool (isSt n s x)) ∧ Fr (fun _ => False) w w' := by
  obtain ⟨us, pe, sr, si, ds, st⟩ := x
  have hbb := b2i_beq si s
  have HB := (show Hid _ from hbb)
  clear hbb
  unfold entVal lnk isSt
  simp only
  go_enter Tryz.func152, Tryz.ntmps152
  cases us
  · go_wp2
    go_ret
    exact ⟨ret_bool (by simp), ((Fr.refl _ _).alloc _).alloc _⟩
  · cases pe
    · cases hq : (sr == n)
      · cases hr : (b2i si == b2i s)
        · go_wp2
          go_ret
          exact ⟨ret_bool (by simp), ((Fr.refl _ _).alloc _).alloc _⟩
        · go_wp2
          go_ret
          exact ⟨ret_bool (by simp), ((Fr.refl _ _).alloc _).alloc _⟩
      · cases hr : (b2i si == b2i s)
        · go_wp2
          go_ret
          exact ⟨ret_bool (by rw [HB.out] at hr; simp [hr]), ((Fr.refl _ _).alloc _).alloc _⟩
        · go_wp2
          go_ret
          exact ⟨ret_bool (by rw [HB.out] at hr; simp [hr]), ((Fr.refl _ _).alloc _).alloc _⟩
    · go_wp2
      go_ret
      exact ⟨ret_bool (by simp), ((Fr.refl _ _).alloc _).alloc _⟩
theorem led_take {es : List PEntry} {k : Nat} {x : PEntry} (h : es[k]? = some x) (n : Int) (s : Bool) (t : Int) (p : Int × Int) : (es.take (k + 1)).foldl (ledStep n s t) p = ledStep n s t ((es.take k).foldl (ledStep n s t) p) x := by
  rw [List.take_add_one, h, List.foldl_append]; rfl
set_option maxHeartbeats 4000000 in
set_option maxRecDepth 100000 in
theorem LedTo_calls (h : MAt w l M) (n : Int) (s : Bool) (t : Int) :
    Calls Tryz.prog 128 #[.pointer (some ⟨l.m, 0, none⟩), lnk n s, .int .i64 t] w fun e w' => e = .returned (.int .i64 (M.ledTo n s t)) ∧ Fr (fun _ => False) w w' := by
  have hs := h.esmall
  have HB := (show Hid (Boxed _ _ _ _ _ _ _) from Boxed.new h n s)
  have hc := HB.out.mem.hd.cell
  clear h
  unfold PMem.ledTo lnk
  go_enter Tryz.func128, Tryz.ntmps128
  go_wp2
  clear hc
  go_loopw [7, 8, 16] (fun to g i wr => ∃ k : Nat, k ≤ M.es.length ∧ i = .int .i64 k ∧ ∃ m d : Int, g = .int .i64 m ∧ to = .int .i64 d ∧ Hid ((M.es.take k).foldl (ledStep n s t) (-1, 1) = (m, d)) ∧ Hid (Boxed w wr l M w.heap.size n s)) (fun _ _ i _ => M.es.length - (intOf i).toNat)
  case atStart => exact ⟨0, Nat.zero_le _, rfl, -1, 1, rfl, rfl, rfl, HB⟩
  case round =>
    clear HB
    obtain ⟨k, hk, rfl, m, d, rfl, rfl, HE, HB⟩ := hrel
    have hc := HB.out.mem.hd.cell
    have hb := HB.out.box.cell
    by_cases hlt : k < M.es.length
    · have hx : Hid (M.es[k]? = some M.es[k]) := List.getElem?_eq_getElem hlt
      generalize M.es[k] = x at hx
      have c0 := MemAt.ent HB.out.mem hx.out (j := 0) (u := .bool x.used) rfl
      have c1 := MemAt.ent HB.out.mem hx.out (j := 1) (u := .bool x.pending) rfl
      have c2 := MemAt.ent HB.out.mem hx.out (j := 2) (u := .int .i64 x.src) rfl
      have c3 := MemAt.ent HB.out.mem hx.out (j := 3) (u := .int .i64 (b2i x.side)) rfl
      have c4 := MemAt.ent HB.out.mem hx.out (j := 4) (u := .int .i64 x.dst) rfl
      have c5 := MemAt.ent HB.out.mem hx.out (j := 5) (u := .int .i64 x.stamp) rfl
      rw [Nat.add_zero] at c0
      have HN := (show Hid _ from led_take hx.out n s t (-1, 1))
      have hlb := HB.out.box.lt
      have hlm := HB.out.mem.hd.lt
      go_wp2_with fail
      refine (isStamped_calls x n s _).mono ?_
      rintro e w1 ⟨rfl, hF⟩
      have HB1 := (show Hid (Boxed w w1 l M w.heap.size n s) from HB.out.step (((Fr.refl _ _).alloc _).trans hF))
      have HX := (show Hid (At w1 wr.heap.size [.bool x.used, .bool x.pending, .int .i64 x.src, .int .i64 (b2i x.side), .int .i64 x.dst, .int .i64 x.stamp] 168) from hF.at (At.new wr [.bool x.used, .bool x.pending, .int .i64 x.src, .int .i64 (b2i x.side), .int .i64 x.dst, .int .i64 x.stamp] _) (fun h => h))
      have hxc := HX.out.cell
      clear hF HB hc hb c0 c1 c2 c3 c4 c5 hlb hlm
      cases hst : isSt n s x
      · go_wp2
        go_roundw
        case rel => exact ⟨k + 1, by omega, by go_num, m, d, rfl, rfl, by show List.foldl _ _ _ = _; rw [HN.out, HE.out]; unfold ledStep; rw [hst]; rfl, HB1⟩
        case measure => simp [intOf]; omega
      · by_cases h1 : x.stamp ≤ t
        · by_cases h2 : m < x.stamp
          · go_wp2
            go_roundw
            case rel => exact ⟨k + 1, by omega, by go_num, x.stamp, x.dst, rfl, rfl, by show List.foldl _ _ _ = _; rw [HN.out, HE.out]; unfold ledStep; rw [hst]; simp [h1, h2], HB1⟩
            case measure => simp [intOf]; omega
          · go_wp2
            go_roundw
            case rel => exact ⟨k + 1, by omega, by go_num, m, d, rfl, rfl, by show List.foldl _ _ _ = _; rw [HN.out, HE.out]; unfold ledStep; rw [hst, if_neg (by intro hh; simp at hh; omega)], HB1⟩
            case measure => simp [intOf]; omega
        · go_wp2
          go_roundw
          case rel => exact ⟨k + 1, by omega, by go_num, m, d, rfl, rfl, by show List.foldl _ _ _ = _; rw [HN.out, HE.out]; unfold ledStep; rw [hst, if_neg (by intro hh; simp at hh; omega)], HB1⟩
          case measure => simp [intOf]; omega
    · have hke : k = M.es.length := by omega
      have HF : Hid ((M.es.foldl (ledStep n s t) (-1, 1)).2 = d) := by
        have := HE.out
        rw [hke, List.take_length] at this
        show (M.es.foldl (ledStep n s t) (-1, 1)).2 = d
        rw [this]
      clear HE hke
      go_wp2
      go_ret
      exact ⟨ret_int HF.out.symm, HB.out.fr⟩
end
end Go.Proofs.YtfccelbmacjifaaGreat

namespace Go.Proofs.YtfccelbmacjifaaGreat
open Go.RowKit

/-- What a block of a store is there for. -/
inductive Tag where
  | store | spl | thl | log | round | noted | gone | lists
  | spot (i : Nat)
  | st (i : Nat) (s : Bool)
  | thread (i : Nat)
  | tr (i : Nat) (k : Nat)
  | oth (n : Nat)
  deriving DecidableEq
structure Zone where
  z : Nat
  tag : Tag
abbrev Own := Nat → Zone
def Own.put (own : Own) (k z : Nat) (tag : Tag) : Own := fun j => if j = k then ⟨z, tag⟩ else own j
theorem Own.put_same (own : Own) (k z : Nat) (tag : Tag) : own.put k z tag k = ⟨z, tag⟩ := by simp [Own.put]
theorem Own.put_ne (own : Own) {k j : Nat} (z : Nat) (tag : Tag) (h : j ≠ k) : own.put k z tag j = own j := by simp [Own.put, h]
/-- What was there keeps its owner. -/
def Ext (own own' : Own) (w : World) : Prop := ∀ k, k < w.heap.size → own' k = own k
theorem Ext.refl (own : Own) (w : World) : Ext own own w := fun _ _ => rfl
theorem Ext.trans {own own1 own2 : Own} {w w1 : World} (h : Ext own own1 w) (k : Ext own1 own2 w1) (hs : w.heap.size ≤ w1.heap.size) : Ext own own2 w :=
  fun j hj => (k j (Nat.lt_of_lt_of_le hj hs)).trans (h j hj)
theorem Ext.put {own : Own} {w : World} {k : Nat} (hk : w.heap.size ≤ k) (z : Nat) (tag : Tag) : Ext own (own.put k z tag) w := fun j hj => Own.put_ne own z tag (by omega)
theorem Ext.put' {own own' : Own} {w : World} {k : Nat} (h : Ext own own' w) {z : Nat} {tag : Tag} (hk : own k = ⟨z, tag⟩ ∨ w.heap.size ≤ k) : Ext own (own'.put k z tag) w := by
  intro j hj
  by_cases e : j = k
  · subst e
    rcases hk with hk | hk
    · rw [Own.put_same, hk]
    · omega
  · rw [Own.put_ne _ _ _ e]; exact h j hj

/-- Within the zone z only blocks of some tags have turned, and no other zone. -/
def FrT (own : Own) (z : Nat) (A : Tag → Prop) (w w' : World) : Prop := Fr (fun k => (own k).z = z ∧ A (own k).tag) w w'
def FrZ (own : Own) (z : Nat) (w w' : World) : Prop := Fr (fun k => (own k).z = z) w w'
theorem FrT.zone {own : Own} {z : Nat} {A : Tag → Prop} {w w' : World} (h : FrT own z A w w') : FrZ own z w w' := Fr.mono h (fun _ _ hk => hk.1)
theorem FrT.mono {own : Own} {z : Nat} {A B : Tag → Prop} {w w' : World} (h : FrT own z A w w') (hAB : ∀ t, A t → B t) : FrT own z B w w' := Fr.mono h (fun _ _ hk => ⟨hk.1, hAB _ hk.2⟩)
theorem FrT.of {own : Own} {z : Nat} {A : Tag → Prop} {w w' : World} {S : Nat → Prop} (h : Fr S w w') (hS : ∀ k, S k → (own k).z = z ∧ A (own k).tag) : FrT own z A w w' := Fr.mono h (fun k _ hk => hS k hk)
theorem FrT.one {own : Own} {z b : Nat} {A : Tag → Prop} {w w' : World} {tag : Tag} (h : Fr (fun k => k = b) w w') (hb : own b = ⟨z, tag⟩) (hA : A tag) : FrT own z A w w' :=
  FrT.of h (by rintro k rfl; rw [hb]; exact ⟨rfl, hA⟩)
theorem FrZ.trans {own own1 : Own} {z : Nat} {w w1 w2 : World} (h : FrZ own z w w1) (he : Ext own own1 w) (k : FrZ own1 z w1 w2) : FrZ own z w w2 :=
  Fr.transNew h k (fun i hi => by
    by_cases hlt : i < w.heap.size
    · left; rw [← he i hlt]; exact hi
    · right; omega)
theorem FrT.trans {own own1 : Own} {z : Nat} {A : Tag → Prop} {w w1 w2 : World} (h : FrT own z A w w1) (he : Ext own own1 w) (k : FrT own1 z A w1 w2) : FrT own z A w w2 :=
  Fr.transNew h k (fun i hi => by
    by_cases hlt : i < w.heap.size
    · left; rw [← he i hlt]; exact hi
    · right; omega)

/-- A row of a slice that the zone owns under a tag. -/
structure Row (own : Own) (z : Nat) (w : World) (tag : Tag) (e : TypeId) (size : Nat) (v : Value) (n : Nat) (xs : List Value) : Prop where
  row : w.ownsRow 0 e size v n xs
  tg : ∀ k, v.ownBlock = some k → own k = ⟨z, tag⟩
theorem ownsRow_lt {w : World} {e : TypeId} {size : Nat} {v : Value} {n : Nat} {xs : List Value} (h : w.ownsRow 0 e size v n xs) {k : Nat} (hk : v.ownBlock = some k) : k < w.heap.size := by
  rcases h.2 with ⟨rfl, _⟩ | ⟨g, cap, cur, rfl, _, hg, _⟩
  · simp [Value.ownBlock] at hk
  · simp [Value.ownBlock] at hk; subst hk; exact (Array.getElem?_eq_some_iff.1 hg).1
theorem Row.fr {own own' : Own} {z : Nat} {w w' : World} {tag : Tag} {e : TypeId} {size : Nat} {v : Value} {n : Nat} {xs : List Value} {S : Nat → Prop}
    (h : Row own z w tag e size v n xs) (hf : Fr S w w') (he : Ext own own' w) (hS : ∀ k, own k = ⟨z, tag⟩ → ¬ S k) : Row own' z w' tag e size v n xs :=
  ⟨hf.owns h.row (fun k hk => hS k (h.tg k hk)), fun k hk => by rw [he k (ownsRow_lt h.row hk)]; exact h.tg k hk⟩
theorem Row.ext {own own' : Own} {z : Nat} {w : World} {tag : Tag} {e : TypeId} {size : Nat} {v : Value} {n : Nat} {xs : List Value}
    (h : Row own z w tag e size v n xs) (he : Ext own own' w) : Row own' z w tag e size v n xs :=
  ⟨h.row, fun k hk => by rw [he k (ownsRow_lt h.row hk)]; exact h.tg k hk⟩
theorem Row.nil (own : Own) (z : Nat) (w : World) (tag : Tag) (e : TypeId) (size : Nat) : Row own z w tag e size (.slice none 0 0) 0 [] :=
  ⟨⟨by simp, .inl ⟨rfl, rfl⟩⟩, by intro k hk; simp [Value.ownBlock] at hk⟩

def intCells (l : List Int) : List Value := l.map (.int .i64)
def natCells (l : List Nat) : List Value := l.map fun (k : Nat) => .int .i64 k
def pairCells (p : Int × Int) : List Value := [.int .i64 p.1, .int .i64 p.2]
def linkCells (p : Int × Bool) : List Value := [.int .i64 p.1, .int .i64 (b2i p.2)]
def madeCells (m : BMade) : List Value := [.int .i64 m.stamp, .int .i64 m.key, .int .i64 m.value, .bool m.put]

structure SLay where
  b : Nat
  st : Bool → Value
def BSpot.cells (x : BSpot) (l : SLay) : List Value :=
  [.int .i64 x.id, .bool x.leaf, .int .i64 x.key, .int .i64 x.value, .int .i64 (x.now false), .int .i64 (x.now true), l.st false, l.st true, .bool (x.opn false), .bool (x.opn true),
   .bool x.dead, .int .i64 x.owner, .int .i64 x.out, .bool x.free]
structure TLay where
  b : Nat
  spans : Value
  want : Value
  new : Value
  todo : Value
  found : Value
  aspans : Value
  lspans : Value
def BThread.cells (t : BThread) (l : TLay) : List Value :=
  [.int .i64 t.okind, .int .i64 t.okey, .int .i64 t.ovalue, l.spans, .bool t.busy, .bool t.has, .int .i64 t.at_, .int .i64 t.slot, .int .i64 t.t, .int .i64 t.g, .int .i64 (b2i t.gs), .int .i64 t.x, .int .i64 (b2i t.xs), .int .i64 t.c, l.want,
   .int .i64 t.have_, .int .i64 t.src, .int .i64 (b2i t.side), .int .i64 t.dst, l.new, .int .i64 t.hid, .int .i64 (b2i t.hside), .int .i64 t.hkey, l.todo, l.found,
   .int .i64 t.ans.err, .bool t.ans.did, .int .i64 t.ans.value, .int .i64 t.ans.stamp, l.aspans, .int .i64 t.last.err, .bool t.last.did, .int .i64 t.last.value, .int .i64 t.last.stamp, l.lspans]
structure DLay where
  b : Nat
  noted : Value
  gone : Value
structure BLay where
  s : Nat
  sv : Value
  sps : List SLay
  lv : Value
  tv : Value
  ths : List TLay
  rd : DLay

/-- The lists of an answer. -/
structure ListsAt (own : Own) (z : Nat) (w : World) (v : Value) (ll : List (List (Int × Int))) : Prop where
  nil : ll = [] → v = .slice none 0 0
  top : ∃ ins : List Value, ins.length = ll.length ∧ Row own z w .lists 58 1 v ll.length ins ∧
    ∀ (i : Nat) (u : Value) (l : List (Int × Int)), ins[i]? = some u → ll[i]? = some l → Row own z w .lists 147 2 u l.length (l.flatMap pairCells)
structure SpAt (own : Own) (z : Nat) (w : World) (i : Nat) (l : SLay) (x : BSpot) : Prop where
  at_ : At w l.b (x.cells l) 130
  tg : own l.b = ⟨z, .spot i⟩
  st : ∀ s, Row own z w (.st i s) 3 1 (l.st s) (x.st s).length (intCells (x.st s))
structure ThAt (own : Own) (z : Nat) (w : World) (i : Nat) (l : TLay) (t : BThread) : Prop where
  at_ : At w l.b (t.cells l) 136
  tg : own l.b = ⟨z, .thread i⟩
  spans : Row own z w (.tr i 0) 138 2 l.spans t.ospans.length (t.ospans.flatMap pairCells)
  want : Row own z w (.tr i 1) 3 1 l.want t.want.length (natCells t.want)
  new : Row own z w (.tr i 2) 3 1 l.new t.new.length (natCells t.new)
  todo : Row own z w (.tr i 3) 133 2 l.todo t.todo.length (t.todo.flatMap linkCells)
  found : Row own z w (.tr i 4) 147 2 l.found t.found.length (t.found.flatMap pairCells)
  alists : ListsAt own z w l.aspans t.ans.spans
  llists : ListsAt own z w l.lspans t.last.spans
structure RdAt (own : Own) (z : Nat) (w : World) (l : DLay) (r : BRound) : Prop where
  at_ : At w l.b [.int .i64 r.at_, .int .i64 r.clock, .int .i64 r.thread, l.noted, l.gone] 118
  tg : own l.b = ⟨z, .round⟩
  noted : Row own z w .noted 3 1 l.noted r.noted.length (intCells r.noted)
  gone : Row own z w .gone 3 1 l.gone r.gone.length (natCells r.gone)
def sptrs (l : List SLay) : List Value := l.map fun x => .pointer (some ⟨x.b, 0, none⟩)
def tptrs (l : List TLay) : List Value := l.map fun x => .pointer (some ⟨x.b, 0, none⟩)
def BSt.head (R : BSt) (L : BLay) : List Value :=
  [.int .i64 R.kind, .int .i64 R.threads, .int .i64 R.nodes, .int .i64 R.entries, .int .i64 R.limit, .int .i64 R.clock, L.sv, L.lv, L.tv, .pointer (some ⟨L.rd.b, 0, none⟩)]
structure BAt (own : Own) (z : Nat) (w : World) (L : BLay) (R : BSt) : Prop where
  hd : At w L.s (R.head L) 123
  hown : own L.s = ⟨z, .store⟩
  sp : Row own z w .spl 125 1 L.sv R.spots.length (sptrs L.sps)
  slen : L.sps.length = R.spots.length
  spot : ∀ (i : Nat) (l : SLay) (x : BSpot), L.sps[i]? = some l → R.spots[i]? = some x → SpAt own z w i l x
  th : Row own z w .thl 131 1 L.tv R.ts.length (tptrs L.ths)
  tlen : L.ths.length = R.ts.length
  thr : ∀ (i : Nat) (l : TLay) (t : BThread), L.ths[i]? = some l → R.ts[i]? = some t → ThAt own z w i l t
  log : Row own z w .log 212 4 L.lv R.log.length (R.log.flatMap madeCells)
  rd : RdAt own z w L.rd R.round

section
variable {own own' : Own} {z : Nat} {w w' : World} {S : Nat → Prop}
theorem at_fr {b : Nat} {c : List Value} {e : TypeId} {tag : Tag} (h : At w b c e) (ho : own b = ⟨z, tag⟩) (hf : Fr S w w') (he : Ext own own' w) (hS : ∀ k, own k = ⟨z, tag⟩ → ¬ S k) : At w' b c e ∧ own' b = ⟨z, tag⟩ :=
  ⟨hf.at h (hS b ho), by rw [he b h.lt]; exact ho⟩
theorem ListsAt.fr {v : Value} {ll : List (List (Int × Int))} (h : ListsAt own z w v ll) (hf : Fr S w w') (he : Ext own own' w) (hS : ∀ k, own k = ⟨z, .lists⟩ → ¬ S k) : ListsAt own' z w' v ll := by
  obtain ⟨ins, h1, h2, h3⟩ := h.top
  exact ⟨h.nil, ins, h1, h2.fr hf he hS, fun i u l hu hl => (h3 i u l hu hl).fr hf he hS⟩
theorem ListsAt.none (own : Own) (z : Nat) (w : World) : ListsAt own z w (.slice none 0 0) [] :=
  ⟨fun _ => rfl, [], rfl, Row.nil _ _ _ _ _ _, by intro i u l hu; simp at hu⟩
theorem SpAt.fr {i : Nat} {l : SLay} {x : BSpot} (h : SpAt own z w i l x) (hf : Fr S w w') (he : Ext own own' w) (h1 : ∀ k, own k = ⟨z, .spot i⟩ → ¬ S k) (h2 : ∀ k s, own k = ⟨z, .st i s⟩ → ¬ S k) : SpAt own' z w' i l x :=
  ⟨(at_fr h.at_ h.tg hf he h1).1, (at_fr h.at_ h.tg hf he h1).2, fun s => (h.st s).fr hf he (fun k hk => h2 k s hk)⟩
theorem ThAt.fr {i : Nat} {l : TLay} {t : BThread} (h : ThAt own z w i l t) (hf : Fr S w w') (he : Ext own own' w) (h1 : ∀ k, own k = ⟨z, .thread i⟩ → ¬ S k) (h2 : ∀ k j, own k = ⟨z, .tr i j⟩ → ¬ S k)
    (h3 : ∀ k, own k = ⟨z, .lists⟩ → ¬ S k) : ThAt own' z w' i l t :=
  ⟨(at_fr h.at_ h.tg hf he h1).1, (at_fr h.at_ h.tg hf he h1).2, h.spans.fr hf he (fun k => h2 k _), h.want.fr hf he (fun k => h2 k _), h.new.fr hf he (fun k => h2 k _), h.todo.fr hf he (fun k => h2 k _),
    h.found.fr hf he (fun k => h2 k _), h.alists.fr hf he h3, h.llists.fr hf he h3⟩
theorem RdAt.fr {l : DLay} {r : BRound} (h : RdAt own z w l r) (hf : Fr S w w') (he : Ext own own' w) (h1 : ∀ k, own k = ⟨z, .round⟩ → ¬ S k) (h2 : ∀ k, own k = ⟨z, .noted⟩ → ¬ S k) (h3 : ∀ k, own k = ⟨z, .gone⟩ → ¬ S k) : RdAt own' z w' l r :=
  ⟨(at_fr h.at_ h.tg hf he h1).1, (at_fr h.at_ h.tg hf he h1).2, h.noted.fr hf he h2, h.gone.fr hf he h3⟩
variable {L : BLay} {R : BSt}
/-- What other zones do leaves a store as it is. -/
theorem BAt.fr (h : BAt own z w L R) (hf : Fr S w w') (he : Ext own own' w) (hS : ∀ k, (own k).z = z → ¬ S k) : BAt own' z w' L R := by
  have hT : ∀ tag k, own k = ⟨z, tag⟩ → ¬ S k := fun tag k hk => hS k (by rw [hk])
  have hh := at_fr h.hd h.hown hf he (hT _)
  exact ⟨hh.1, hh.2, h.sp.fr hf he (hT _), h.slen, fun i l x hl hx => (h.spot i l x hl hx).fr hf he (hT _) (fun k s => hT _ k), h.th.fr hf he (hT _), h.tlen,
    fun i l t hl ht => (h.thr i l t hl ht).fr hf he (hT _) (fun k j => hT _ k) (hT _), h.log.fr hf he (hT _), h.rd.fr hf he (hT _) (hT _) (hT _)⟩
theorem not_tag {A : Tag → Prop} {tag : Tag} (h : ¬ A tag) : ∀ k, own k = ⟨z, tag⟩ → ¬ ((own k).z = z ∧ A (own k).tag) := by
  intro k hk hs; rw [hk] at hs; exact h hs.2
/-- A spot is turned. -/
theorem BAt.spotSet (h : BAt own z w L R) {i : Nat} {l : SLay} {x' : BSpot} {st' : Bool → Value} (hl : L.sps[i]? = some l)
    (hf : FrT own z (fun t => t = .spot i ∨ t = .st i false ∨ t = .st i true) w w') (he : Ext own own' w) (hx : SpAt own' z w' i ⟨l.b, st'⟩ x') :
    BAt own' z w' { L with sps := L.sps.set i ⟨l.b, st'⟩ } { R with spots := R.spots.set i x' } := by
  have hn : ∀ tag : Tag, ¬ (tag = .spot i ∨ tag = .st i false ∨ tag = .st i true) → ∀ k, own k = ⟨z, tag⟩ → ¬ ((own k).z = z ∧ ((own k).tag = .spot i ∨ (own k).tag = .st i false ∨ (own k).tag = .st i true)) := fun tag ht => not_tag (A := fun t => t = .spot i ∨ t = .st i false ∨ t = .st i true) ht
  have hh := at_fr h.hd h.hown hf he (hn _ (by simp))
  have hp : sptrs (L.sps.set i ⟨l.b, st'⟩) = sptrs L.sps := by
    unfold sptrs
    rw [List.map_set]
    apply List.ext_getElem?
    intro j
    rw [List.getElem?_set]
    split
    · next e =>
      subst e
      split
      · simp [hl]
      · next h2 => simp at h2; simp [List.getElem?_eq_none h2]
    · rfl
  refine ⟨hh.1, hh.2, ?_, by simp [h.slen], ?_, h.th.fr hf he (hn _ (by simp)), h.tlen, ?_, h.log.fr hf he (hn _ (by simp)), h.rd.fr hf he (hn _ (by simp)) (hn _ (by simp)) (hn _ (by simp))⟩
  · simp only [hp, List.length_set]
    exact h.sp.fr hf he (hn _ (by simp))
  · intro j l1 x1 hl1 hx1
    simp only [List.getElem?_set] at hl1 hx1
    by_cases e : i = j
    · subst e
      rw [if_pos rfl] at hl1 hx1
      split at hl1 <;> simp at hl1
      split at hx1 <;> simp at hx1
      subst hl1; subst hx1; exact hx
    · rw [if_neg e] at hl1 hx1
      exact (h.spot j l1 x1 hl1 hx1).fr hf he (hn _ (by simp; omega)) (fun k s => hn _ (by cases s <;> simp <;> omega) k)
  · intro j l1 t1 hl1 ht1
    exact (h.thr j l1 t1 hl1 ht1).fr hf he (hn _ (by simp)) (fun k j => hn _ (by simp) k) (hn _ (by simp))
/-- A thread is turned. -/
theorem BAt.thrSet (h : BAt own z w L R) {i : Nat} {l l' : TLay} {t' : BThread} (hl : L.ths[i]? = some l) (hb : l'.b = l.b)
    (hf : FrT own z (fun t => t = .thread i ∨ ∃ k, t = .tr i k) w w') (he : Ext own own' w) (hx : ThAt own' z w' i l' t') :
    BAt own' z w' { L with ths := L.ths.set i l' } (R.setTh i t') := by
  have hn : ∀ tag : Tag, ¬ (tag = .thread i ∨ ∃ k, tag = .tr i k) → ∀ k, own k = ⟨z, tag⟩ → ¬ ((own k).z = z ∧ ((own k).tag = .thread i ∨ ∃ j, (own k).tag = .tr i j)) := fun tag ht => not_tag (A := fun t => t = .thread i ∨ ∃ k, t = .tr i k) ht
  have hh := at_fr h.hd h.hown hf he (hn _ (by simp))
  have hp : tptrs (L.ths.set i l') = tptrs L.ths := by
    unfold tptrs
    rw [List.map_set]
    apply List.ext_getElem?
    intro j
    rw [List.getElem?_set]
    split
    · next e =>
      subst e
      split
      · simp [hl, hb]
      · next h2 => simp at h2; simp [List.getElem?_eq_none h2]
    · rfl
  refine ⟨hh.1, hh.2, h.sp.fr hf he (hn _ (by simp)), h.slen, ?_, ?_, by simp [h.tlen, BSt.setTh], ?_, h.log.fr hf he (hn _ (by simp)), h.rd.fr hf he (hn _ (by simp)) (hn _ (by simp)) (hn _ (by simp))⟩
  · intro j l1 x1 hl1 hx1
    exact (h.spot j l1 x1 hl1 hx1).fr hf he (hn _ (by simp)) (fun k s => hn _ (by simp) k)
  · simp only [hp, List.length_set, BSt.setTh]
    exact h.th.fr hf he (hn _ (by simp))
  · intro j l1 t1 hl1 ht1
    simp only [List.getElem?_set, BSt.setTh] at hl1 ht1
    by_cases e : i = j
    · subst e
      rw [if_pos rfl] at hl1 ht1
      split at hl1 <;> simp at hl1
      split at ht1 <;> simp at ht1
      subst hl1; subst ht1; exact hx
    · rw [if_neg e] at hl1 ht1
      exact (h.thr j l1 t1 hl1 ht1).fr hf he (hn _ (by simp; omega)) (fun k j => hn _ (by simp; omega) k) (hn _ (by simp))
/-- The store's own block is turned, its lists are not. -/
theorem BAt.hdSet (h : BAt own z w L R) {R' : BSt} (hf : FrT own z (fun t => t = .store) w w') (he : Ext own own' w) (hA : At w' L.s (R'.head L) 123)
    (e1 : R'.spots = R.spots) (e2 : R'.ts = R.ts) (e3 : R'.log = R.log) (e4 : R'.round = R.round) : BAt own' z w' L R' := by
  have hn : ∀ tag : Tag, ¬ tag = .store → ∀ k, own k = ⟨z, tag⟩ → ¬ ((own k).z = z ∧ (own k).tag = .store) := fun tag ht => not_tag (A := fun t => t = .store) ht
  refine ⟨hA, by rw [he _ h.hd.lt]; exact h.hown, ?_, by rw [e1]; exact h.slen, ?_, ?_, by rw [e2]; exact h.tlen, ?_, ?_, ?_⟩
  · rw [e1]; exact h.sp.fr hf he (hn _ (by simp))
  · rw [e1]; exact fun i l x hl hx => (h.spot i l x hl hx).fr hf he (hn _ (by simp)) (fun k s => hn _ (by simp) k)
  · rw [e2]; exact h.th.fr hf he (hn _ (by simp))
  · rw [e2]; exact fun i l t hl ht => (h.thr i l t hl ht).fr hf he (hn _ (by simp)) (fun k j => hn _ (by simp) k) (hn _ (by simp))
  · rw [e3]; exact h.log.fr hf he (hn _ (by simp))
  · rw [e4]; exact h.rd.fr hf he (hn _ (by simp)) (hn _ (by simp)) (hn _ (by simp))
end

/-- How a store's thread finds itself, and how a spot is found. -/
theorem sptrs_get {l : List SLay} {i : Nat} {x : SLay} (h : l[i]? = some x) : (sptrs l)[i]? = some (.pointer (some ⟨x.b, 0, none⟩)) := by simp [sptrs, h]
theorem tptrs_get {l : List TLay} {i : Nat} {x : TLay} (h : l[i]? = some x) : (tptrs l)[i]? = some (.pointer (some ⟨x.b, 0, none⟩)) := by simp [tptrs, h]
section
variable {own : Own} {z : Nat} {w : World} {L : BLay} {R : BSt}
theorem BAt.spotAt (h : BAt own z w L R) {i : Nat} (hi : i < R.spots.length) : ∃ l sb cap, L.sps[i]? = some l ∧ L.sv = .slice (some ⟨sb, 0, none⟩) R.spots.length cap ∧ w.cell? ⟨sb, i, none⟩ = some (.pointer (some ⟨l.b, 0, none⟩)) ∧
    R.spots[i]? = some (R.sp i) ∧ SpAt own z w i l (R.sp i) := by
  have hx := List.getElem?_eq_getElem hi
  have hb := List.getElem?_eq_getElem (show i < L.sps.length by rw [h.slen]; exact hi)
  obtain ⟨sb, cap, hv, _⟩ := ownsRow_shape h.sp.row (by omega)
  have ho := h.sp.row
  rw [hv] at ho
  have e : R.spots[i]? = some (R.sp i) := by rw [BSt.sp, hx]; rfl
  exact ⟨L.sps[i]'(by rw [h.slen]; exact hi), sb, cap, hb, hv, ownsRow_cell ho (sptrs_get hb), e, h.spot i _ _ hb e⟩
theorem BAt.thAt (h : BAt own z w L R) {i : Nat} (hi : i < R.ts.length) : ∃ l tb cap, L.ths[i]? = some l ∧ L.tv = .slice (some ⟨tb, 0, none⟩) R.ts.length cap ∧ w.cell? ⟨tb, i, none⟩ = some (.pointer (some ⟨l.b, 0, none⟩)) ∧
    R.ts[i]? = some (R.th i) ∧ ThAt own z w i l (R.th i) := by
  have hx := List.getElem?_eq_getElem hi
  have hb := List.getElem?_eq_getElem (show i < L.ths.length by rw [h.tlen]; exact hi)
  obtain ⟨sb, cap, hv, _⟩ := ownsRow_shape h.th.row (by omega)
  have ho := h.th.row
  rw [hv] at ho
  have e : R.ts[i]? = some (R.th i) := by rw [BSt.th, hx]; rfl
  exact ⟨L.ths[i]'(by rw [h.tlen]; exact hi), sb, cap, hb, hv, ownsRow_cell ho (tptrs_get hb), e, h.thr i _ _ hb e⟩
end
end Go.Proofs.YtfccelbmacjifaaGreat

