import Derived.Test.YtfccelbmacjifaaGreatP2
namespace Go.Proofs.YtfccelbmacjifaaGreat
open Go.RowKit
/-- A list of which the first k are turned. -/
def pmap {α : Type} (f : α → α) (l : List α) (k : Nat) : List α := (l.take k).map f ++ l.drop k
theorem pmap_zero {α : Type} (f : α → α) (l : List α) : pmap f l 0 = l := by simp [pmap]
theorem pmap_all {α : Type} (f : α → α) (l : List α) : pmap f l l.length = l.map f := by simp [pmap]
theorem pmap_len {α : Type} (f : α → α) (l : List α) (k : Nat) (h : k ≤ l.length) : (pmap f l k).length = l.length := by simp [pmap]; omega
theorem pmap_get {α : Type} (f : α → α) (l : List α) (k : Nat) (h : k < l.length) : (pmap f l k)[k]? = l[k]? := by
  unfold pmap
  rw [List.getElem?_append_right (by simp; omega), List.getElem?_drop]
  simp; congr 1; omega
theorem pmap_succ {α : Type} (f : α → α) (l : List α) (k : Nat) (x : α) (h : l[k]? = some x) : pmap f l (k + 1) = (pmap f l k).set k (f x) := by
  obtain ⟨hk, hx⟩ := List.getElem?_eq_some_iff.1 h
  unfold pmap
  rw [List.take_succ_eq_append_getElem hk, List.map_append, List.drop_eq_getElem_cons hk, hx]
  rw [List.set_append_right _ _ (by simp; omega)]
  simp [Nat.min_eq_left (Nat.le_of_lt hk)]
theorem pmap_skip {α : Type} (f : α → α) (l : List α) (k : Nat) (x : α) (h : l[k]? = some x) (hf : f x = x) : pmap f l (k + 1) = pmap f l k := by
  obtain ⟨hk, hx⟩ := List.getElem?_eq_some_iff.1 h
  unfold pmap
  rw [List.take_succ_eq_append_getElem hk, List.map_append, List.drop_eq_getElem_cons hk, hx]
  simp [hf]

section
variable {w : World} {l : MLay} {M : PMem}
set_option maxHeartbeats 2000000 in
theorem Unlock_calls (h : MAt w l M) (t : Int) :
    Calls Tryz.prog 184 #[.pointer (some ⟨l.m, 0, none⟩), .int .i64 t] w fun e w' => e = .returned (.tuple #[]) ∧ MAt w' l (M.unlock t) ∧ MFr l w w' := by
  have hs := h.nsmall
  have hc := h.hd.cell
  have H := (show Hid (MAt w l { M with ns := pmap (unlocked t) M.ns 0 }) from by rw [pmap_zero]; exact h)
  have hE : Hid (M.unlock t = { M with ns := pmap (unlocked t) M.ns M.ns.length }) := by show _ = _; rw [pmap_all]; rfl
  clear h
  go_enter Tryz.func184, Tryz.ntmps184
  go_wp2
  clear hc
  go_loopw [4, 10] (fun _ i wr => ∃ k : Nat, k ≤ M.ns.length ∧ i = .int .i64 k ∧ Hid (MAt wr l { M with ns := pmap (unlocked t) M.ns k }) ∧ Hid (MFr l w wr)) (fun _ i _ => M.ns.length - (intOf i).toNat)
  case atStart => exact ⟨0, Nat.zero_le _, rfl, H, .of0 (Fr.refl _ _)⟩
  case round =>
    clear H
    obtain ⟨k, hk, rfl, H, HF⟩ := hrel
    have hc := H.out.hd.cell
    rw [show (({ M with ns := pmap (unlocked t) M.ns k } : PMem).ns).length = M.ns.length from pmap_len _ _ _ hk] at hc
    by_cases hlt : k < M.ns.length
    · have hx : Hid (M.ns[k]? = some M.ns[k]) := List.getElem?_eq_getElem hlt
      generalize M.ns[k] = x at hx
      have hx' : Hid ((pmap (unlocked t) M.ns k)[k]? = some x) := by show _ = _; rw [pmap_get _ _ _ hlt]; exact hx.out
      have c5 := MemAt.node H.out hx'.out (j := 5) (u := .bool x.used) rfl
      have c6 := MemAt.node H.out hx'.out (j := 6) (u := .int .i64 x.holder) rfl
      have hf := ownsRow_frozen H.out.nodes
      have hskip : Hid (unlocked t x = x → MAt wr l { M with ns := pmap (unlocked t) M.ns (k + 1) }) := by
        intro e; rw [pmap_skip _ _ _ x hx.out e]; exact H.out
      cases hu : x.used
      · rw [hu] at c5
        go_wp2
        go_roundw
        case rel => exact ⟨k + 1, by omega, by go_num, hskip.out (by simp [unlocked, hu]), HF⟩
        case measure => simp [intOf]; omega
      · rw [hu] at c5
        cases hh : (x.holder == t)
        · go_wp2
          go_roundw
          case rel => exact ⟨k + 1, by omega, by go_num, hskip.out (by simp [unlocked, hu, hh]), HF⟩
          case measure => simp [intOf]; omega
        · have hset : Hid (MAt (wr.setCell ⟨l.nb, k * 10 + 6, none⟩ (.int .i64 (-1))) l { M with ns := pmap (unlocked t) M.ns (k + 1) }) := by
            show MAt _ _ _
            rw [pmap_succ _ _ _ x hx.out]
            exact MemAt.setNode H.out hx'.out 6 (unlocked t x) (.int .i64 (-1)) (by decide) (by simp [unlocked, hu, hh, PNode.cells])
          have hF2 : Hid (MFr l w (wr.setCell ⟨l.nb, k * 10 + 6, none⟩ (.int .i64 (-1)))) := Fr.setIn (.inl rfl) HF.out _ _
          go_wp2
          go_roundw
          case rel => exact ⟨k + 1, by omega, by go_num, hset, hF2⟩
          case measure => simp [intOf]; omega
    · have hk' : k = M.ns.length := by omega
      subst hk'
      go_wp2
      go_end0
      exact ⟨rfl, by rw [hE.out]; exact H.out, HF.out⟩

def freed (n : Int) (e : PEntry) : PEntry := if ofNode n e then PEntry.zero else e
set_option maxHeartbeats 4000000 in
theorem Free_calls (h : MAt w l M) (n : Int) :
    Calls Tryz.prog 150 #[.pointer (some ⟨l.m, 0, none⟩), .int .i64 n] w fun e w' => e = .returned (.tuple #[]) ∧ MAt w' l (M.free n) ∧ MFr l w w' := by
  have hs := h.nsmall
  have hes := h.esmall
  have hc := h.hd.cell
  have H := (show Hid (MAt w l M) from h)
  clear h
  go_enter Tryz.func150, Tryz.ntmps150
  go_wp2_with fail
  refine (hasNode_calls H.out _).mono ?_
  rintro e w' ⟨rfl, rfl⟩
  cases hn : M.hasNode n
  · have hE : Hid (M.free n = M) := by show _ = _; simp [PMem.free, hn]
    go_wp2
    refine bodyPost_ret (results_none rfl _ _ _) rfl ?_
    exact ⟨rfl, by rw [hE.out]; exact H.out, .of0 (Fr.refl _ _)⟩
  · cases h0 : (n == 0)
    · cases h1 : (n == 1)
      · have hE : Hid (M.free n = { ns := M.ns.set n.toNat PNode.zero, es := pmap (freed n) M.es M.es.length }) := by
          show _ = _; rw [pmap_all]; simp [PMem.free, hn, bne, h0, h1, freed]
        have HN := (show Hid (M.hasNode n = true) from hn)
        have H0 := (show Hid (MAt w' l { M with es := pmap (freed n) M.es 0 }) from by rw [pmap_zero]; exact H.out)
        clear H hn
        go_wp2
        clear hc
        go_loopw [4, 22] (fun _ i wr => ∃ k : Nat, k ≤ M.es.length ∧ i = .int .i64 k ∧ Hid (MAt wr l { M with es := pmap (freed n) M.es k }) ∧ Hid (MFr l w' wr)) (fun _ i _ => M.es.length - (intOf i).toNat)
        case atStart => exact ⟨0, Nat.zero_le _, rfl, H0, .of0 (Fr.refl _ _)⟩
        case round =>
          clear H0
          obtain ⟨k, hk, rfl, H, HF⟩ := hrel
          have hc := H.out.hd.cell
          rw [show (({ M with es := pmap (freed n) M.es k } : PMem).es).length = M.es.length from pmap_len _ _ _ hk] at hc
          by_cases hlt : k < M.es.length
          · have hx : Hid (M.es[k]? = some M.es[k]) := List.getElem?_eq_getElem hlt
            generalize M.es[k] = x at hx
            have hx' : Hid ((pmap (freed n) M.es k)[k]? = some x) := by show _ = _; rw [pmap_get _ _ _ hlt]; exact hx.out
            have c0 := MemAt.ent H.out hx'.out (j := 0) (u := .bool x.used) rfl
            have c1 := MemAt.ent H.out hx'.out (j := 1) (u := .bool x.pending) rfl
            have c2 := MemAt.ent H.out hx'.out (j := 2) (u := .int .i64 x.src) rfl
            have c3 := MemAt.ent H.out hx'.out (j := 3) (u := .int .i64 (b2i x.side)) rfl
            have c4 := MemAt.ent H.out hx'.out (j := 4) (u := .int .i64 x.dst) rfl
            have c5 := MemAt.ent H.out hx'.out (j := 5) (u := .int .i64 x.stamp) rfl
            rw [Nat.add_zero] at c0
            have hf := ownsRow_frozen H.out.ents
            have hskip : Hid (freed n x = x → MAt wr l { M with es := pmap (freed n) M.es (k + 1) }) := by
              intro e; rw [pmap_skip _ _ _ x hx.out e]; exact H.out
            cases hu : x.used
            · rw [hu] at c0
              go_wp2
              go_roundw
              case rel => exact ⟨k + 1, by omega, by go_num, hskip.out (by simp [freed, ofNode, hu]), HF⟩
              case measure => simp [intOf]; omega
            · rw [hu] at c0
              cases hh : (x.src == n)
              · go_wp2
                go_roundw
                case rel => exact ⟨k + 1, by omega, by go_num, hskip.out (by simp [freed, ofNode, hu, hh]), HF⟩
                case measure => simp [intOf]; omega
              · have hset := MemAt.putEnt H.out hx'.out PEntry.zero
                have hfx : freed n x = PEntry.zero := by simp [freed, ofNode, hu, hh]
                rw [← hfx, ← pmap_succ _ _ _ x hx.out] at hset
                have HS := (show Hid (MAt _ l { M with es := pmap (freed n) M.es (k + 1) }) from hset)
                rw [hfx] at HS
                clear hset hfx
                go_wp2
                go_roundw
                case rel =>
                  refine ⟨k + 1, by omega, by go_num, HS, ?_⟩
                  refine Fr.trans HF.out ?_
                  repeat (with_reducible first | refine Fr.setIn (.inr rfl) ?_ _ _ | refine Fr.drewN ?_ _ | refine Fr.drew ?_ | exact Fr.refl _ _)
                case measure => simp [intOf]; omega
          · have hk' : k = M.es.length := by omega
            subst hk'
            obtain ⟨k, x, rfl, hlt', hx, _⟩ := hasNode_get HN.out
            have HX := (show Hid (M.ns[k]? = some x) from hx)
            have c0 := MemAt.node H.out HX.out (j := 0) (u := .int .i64 x.key) rfl
            have c1 := MemAt.node H.out HX.out (j := 1) (u := .int .i64 x.value) rfl
            have c2 := MemAt.node H.out HX.out (j := 2) (u := .bool x.dead) rfl
            have c3 := MemAt.node H.out HX.out (j := 3) (u := .bool x.retired) rfl
            have c4 := MemAt.node H.out HX.out (j := 4) (u := .int .i64 x.retiredAt) rfl
            have c5 := MemAt.node H.out HX.out (j := 5) (u := .bool x.used) rfl
            have c6 := MemAt.node H.out HX.out (j := 6) (u := .int .i64 x.holder) rfl
            have c7 := MemAt.node H.out HX.out (j := 7) (u := .int .i64 x.links) rfl
            have c8 := MemAt.node H.out HX.out (j := 8) (u := .int .i64 (x.leads false)) rfl
            have c9 := MemAt.node H.out HX.out (j := 9) (u := .int .i64 (x.leads true)) rfl
            have hf := ownsRow_frozen H.out.nodes
            rw [Nat.add_zero] at c0
            clear hx
            go_wp2
            go_end0
            rw [hE.out]
            refine ⟨rfl, MemAt.putNode H.out HX.out PNode.zero, Fr.trans HF.out ?_⟩
            repeat (with_reducible first | refine Fr.setIn (.inl rfl) ?_ _ _ | refine Fr.drewN ?_ _ | refine Fr.drew ?_ | exact Fr.refl _ _)
      · have hE : Hid (M.free n = M) := by show _ = _; simp [PMem.free, bne, h1]
        go_wp2
        refine bodyPost_ret (results_none rfl _ _ _) rfl ?_
        exact ⟨rfl, by rw [hE.out]; exact H.out, .of0 (Fr.refl _ _)⟩
    · have hE : Hid (M.free n = M) := by show _ = _; simp [PMem.free, bne, h0]
      go_wp2
      refine bodyPost_ret (results_none rfl _ _ _) rfl ?_
      exact ⟨rfl, by rw [hE.out]; exact H.out, .of0 (Fr.refl _ _)⟩
end
end Go.Proofs.YtfccelbmacjifaaGreat

namespace Go.Proofs.YtfccelbmacjifaaGreat
open Go.RowKit
section
variable {w : World} {l : MLay} {M : PMem}
def nodeVal (x : PNode) : Value := .agg #[.int .i64 x.key, .int .i64 x.value, .bool x.dead, .bool x.retired, .int .i64 x.retiredAt, .bool x.used, .int .i64 x.holder, .int .i64 x.links, .int .i64 (x.leads false), .int .i64 (x.leads true)]

set_option maxHeartbeats 2000000 in
theorem Node_size (h : MAt w l M) (n : Int) :
    Calls Tryz.prog 149 #[.pointer (some ⟨l.m, 0, none⟩), .int .i64 n] w fun e w' => e = .returned (nodeVal (M.node n)) ∧ Fr (fun _ => False) w w' ∧ w'.heap.size = w.heap.size + 1 := by
  have hs := h.nsmall
  have hm := h.hd.lt
  have hnb := ownsRow_lt0 h.nodes
  have H := (show Hid (MAt w l M) from h)
  have hF : Fr (fun _ => False) w (w.alloc (.cells PNode.zero.cells.toArray 166)) := (Fr.refl _ _).alloc _
  have H1 := (show Hid (MAt _ l M) from MAt.same0 h hF)
  have hA := At.new w PNode.zero.cells 166
  have hz := hA.frozen
  have hac := hA.cell
  have hc := H1.out.hd.cell
  have HF := (show Hid (Fr _ _ _) from hF)
  clear h hF hA
  simp only [PNode.zero, PNode.cells, Int.natCast_zero] at hz hac hc H1 HF
  go_enter Tryz.func149, Tryz.ntmps149
  go_wp2_with fail
  refine (hasNode_calls H1.out n).mono ?_
  rintro e w' ⟨rfl, rfl⟩
  cases hn : M.hasNode n
  · have hE : Hid (M.node n = PNode.zero) := node_no hn
    go_wp2
    refine bodyPost_ret (v := nodeVal PNode.zero) (by simp [results, Tryz.results149, go_sem, nodeVal, PNode.zero]) rfl ?_
    rw [hE.out]
    refine ⟨rfl, ?_, by simp⟩
    repeat (with_reducible first | refine Fr.alloc ?_ _ | exact Fr.refl _ _)
  · obtain ⟨k, x, rfl, hlt, hx, hE⟩ := hasNode_get hn
    have HE := (show Hid (M.node k = x) from hE)
    have c0 := MemAt.node H1.out hx (j := 0) (u := .int .i64 x.key) rfl
    have c1 := MemAt.node H1.out hx (j := 1) (u := .int .i64 x.value) rfl
    have c2 := MemAt.node H1.out hx (j := 2) (u := .bool x.dead) rfl
    have c3 := MemAt.node H1.out hx (j := 3) (u := .bool x.retired) rfl
    have c4 := MemAt.node H1.out hx (j := 4) (u := .int .i64 x.retiredAt) rfl
    have c5 := MemAt.node H1.out hx (j := 5) (u := .bool x.used) rfl
    have c6 := MemAt.node H1.out hx (j := 6) (u := .int .i64 x.holder) rfl
    have c7 := MemAt.node H1.out hx (j := 7) (u := .int .i64 x.links) rfl
    have c8 := MemAt.node H1.out hx (j := 8) (u := .int .i64 (x.leads false)) rfl
    have c9 := MemAt.node H1.out hx (j := 9) (u := .int .i64 (x.leads true)) rfl
    rw [Nat.add_zero] at c0
    clear hx hE hn
    go_wp2
    refine bodyPost_ret (v := nodeVal x) (by simp [results, Tryz.results149, go_sem, nodeVal]) rfl ?_
    rw [HE.out]
    refine ⟨rfl, ?_, by simp⟩
    repeat (with_reducible first | refine Fr.alloc ?_ _ | exact Fr.refl _ _)

theorem Node_calls (h : MAt w l M) (n : Int) :
    Calls Tryz.prog 149 #[.pointer (some ⟨l.m, 0, none⟩), .int .i64 n] w fun e w' => e = .returned (nodeVal (M.node n)) ∧ Fr (fun _ => False) w w' :=
  (Node_size h n).mono fun _ _ h => ⟨h.1, h.2.1⟩

set_option maxHeartbeats 1000000 in
theorem IsInner_size (x : PNode) (w : World) :
    Calls Tryz.prog 157 #[nodeVal x] w fun e w' => e = .returned (.bool (x.links == 2)) ∧ Fr (fun _ => False) w w' ∧ w'.heap.size = w.heap.size + 1 := by
  have hA := At.new w x.cells 166
  have hac := hA.cell
  clear hA
  simp only [PNode.cells] at hac
  have hE : Hid (((x.links : Int) == 2) = (x.links == 2)) := by
    show _ = _
    cases h : (x.links == 2)
    · rw [beq_eq_false_iff_ne] at h ⊢; omega
    · rw [beq_iff_eq] at h ⊢; omega
  unfold nodeVal
  cases hq : ((x.links : Int) == 2)
  all_goals
    go_enter Tryz.func157, Tryz.ntmps157
    go_wp2
    go_ret
    exact ⟨ret_bool (by rw [← hE.out]; first | rfl | exact hq.symm | exact hq), (Fr.refl _ _).alloc _, by simp⟩
theorem IsInner_calls (x : PNode) (w : World) :
    Calls Tryz.prog 157 #[nodeVal x] w fun e w' => e = .returned (.bool (x.links == 2)) ∧ Fr (fun _ => False) w w' :=
  (IsInner_size x w).mono fun _ _ h => ⟨h.1, h.2.1⟩
theorem field_key (x : PNode) : ∀ w : World, (Instr.field 166 (nodeVal x) 0).run Tryz.prog w = .ok (.int .i64 x.key) w := fun _ => by kernel_rfl
theorem field_value (x : PNode) : ∀ w : World, (Instr.field 166 (nodeVal x) 1).run Tryz.prog w = .ok (.int .i64 x.value) w := fun _ => by kernel_rfl
theorem field_dead (x : PNode) : ∀ w : World, (Instr.field 166 (nodeVal x) 2).run Tryz.prog w = .ok (.bool x.dead) w := fun _ => by kernel_rfl
theorem field_retiredAt (x : PNode) : ∀ w : World, (Instr.field 166 (nodeVal x) 4).run Tryz.prog w = .ok (.int .i64 x.retiredAt) w := fun _ => by kernel_rfl
end
end Go.Proofs.YtfccelbmacjifaaGreat

set_option linter.unusedSimpArgs false
namespace Go.Proofs.YtfccelbmacjifaaGreat
open Go.RowKit
section
variable {w : World} {l : MLay} {M : PMem}

set_option maxHeartbeats 4000000 in
theorem LinkFor_size (h : MAt w l M) (n key : Int) :
    Calls Tryz.prog 151 #[.pointer (some ⟨l.m, 0, none⟩), .int .i64 n, .int .i64 key] w fun e w' => e = .returned (lnk n (M.sideFor n key)) ∧ Fr (fun _ => False) w w' ∧ w'.heap.size = w.heap.size + 4 := by
  have H := (show Hid (MAt w l M) from h)
  have hF : Fr (fun _ => False) w (w.alloc (.cells #[.int .i64 0, .int .i64 0] 109)) := (Fr.refl _ _).alloc _
  have H1 := (show Hid (MAt _ l M) from MAt.same0 h hF)
  have hA := At.new w [.int .i64 0, .int .i64 0] 109
  have HA := (show Hid (At _ _ _ _) from hA)
  have HF := (show Hid (Fr _ _ _) from hF)
  clear h hF hA
  go_enter Tryz.func151, Tryz.ntmps151
  go_wp2_with fail
  refine (Node_size H1.out n).mono ?_
  rintro e w1 ⟨rfl, hF1, hz1⟩
  have HZ1 := (show Hid (w1.heap.size = _) from hz1)
  clear hz1
  have hA1 := hF1.at HA.out (fun h => h)
  have hsz := hA1.lt
  have HF1 := (show Hid (Fr _ w w1) from HF.out.trans hF1)
  have HA1 := (show Hid (At _ _ _ _) from hA1)
  generalize hx : M.node n = x
  have hside : Hid (M.sideFor n key = ((x.links == 2) && decide (x.key ≤ key))) := by show _ = _; unfold PMem.sideFor; rw [hx]
  unfold nodeVal
  clear hF1 HA HF H1 H hA1 hx
  go_wp2_with fail
  refine (IsInner_size x _).mono ?_
  rintro e w2 ⟨rfl, hF2, hz2'⟩
  have hsize : Hid (w2.heap.size = w.heap.size + 4) := by
    show _ = _
    have hz1 := HZ1.out
    simp only [World.size_alloc] at hz1 hz2'
    omega
  clear HZ1 hz2'
  have hA2 := hF2.at (HA1.out.alloc _) (fun h => h)
  have hB2 := hF2.at (At.new w1 x.cells 166) (fun h => h)
  have hz2 := hA2.frozen
  have hc2 := hA2.cell
  have hb2 := hB2.cell
  simp only [PNode.cells] at hb2
  have HF2 := (show Hid (Fr _ w w2) from (HF1.out.alloc _).trans hF2)
  have HA2 := (show Hid (At _ _ _ _) from hA2)
  have hsz2 : w.heap.size ≤ w.heap.size := Nat.le_refl _
  clear hF2 hA2 hB2 HF1 HA1
  cases hl : (x.links == 2)
  · have hs : Hid (M.sideFor n key = false) := by show _ = _; rw [hside.out, hl]; rfl
    go_wp2
    have f0 := (HA2.out.set 0 (.int .i64 n)).cell
    have f1 := ((HA2.out.set 0 (.int .i64 n)).set 1 (.int .i64 0)).cell
    refine bodyPost_ret (v := lnk n false) (by simp [results, Tryz.results151, go_sem, lnk, b2i, f0, f1]) rfl ?_
    rw [hs.out]
    refine ⟨rfl, ?_, by simpa using hsize.out⟩
    exact Fr.setNew (Nat.le_refl _) (Fr.setNew (Nat.le_refl _) HF2.out _ _) _ _
  · by_cases hk : x.key ≤ key
    · have hs : Hid (M.sideFor n key = true) := by show _ = _; rw [hside.out, hl, decide_eq_true hk]; rfl
      go_wp2
      have f0 := (HA2.out.set 0 (.int .i64 n)).cell
      have f1 := ((HA2.out.set 0 (.int .i64 n)).set 1 (.int .i64 1)).cell
      refine bodyPost_ret (v := lnk n true) (by simp [results, Tryz.results151, go_sem, lnk, b2i, f0, f1]) rfl ?_
      rw [hs.out]
      refine ⟨rfl, ?_, by simpa using hsize.out⟩
      exact Fr.setNew (Nat.le_refl _) (Fr.setNew (Nat.le_refl _) HF2.out _ _) _ _
    · have hs : Hid (M.sideFor n key = false) := by show _ = _; rw [hside.out, hl, decide_eq_false hk]; rfl
      go_wp2
      have f0 := (HA2.out.set 0 (.int .i64 n)).cell
      have f1 := ((HA2.out.set 0 (.int .i64 n)).set 1 (.int .i64 0)).cell
      refine bodyPost_ret (v := lnk n false) (by simp [results, Tryz.results151, go_sem, lnk, b2i, f0, f1]) rfl ?_
      rw [hs.out]
      refine ⟨rfl, ?_, by simpa using hsize.out⟩
      exact Fr.setNew (Nat.le_refl _) (Fr.setNew (Nat.le_refl _) HF2.out _ _) _ _

theorem LinkFor_calls (h : MAt w l M) (n key : Int) :
    Calls Tryz.prog 151 #[.pointer (some ⟨l.m, 0, none⟩), .int .i64 n, .int .i64 key] w fun e w' => e = .returned (lnk n (M.sideFor n key)) ∧ Fr (fun _ => False) w w' :=
  (LinkFor_size h n key).mono fun _ _ h => ⟨h.1, h.2.1⟩

set_option maxHeartbeats 2000000 in
theorem LeadsTo_calls (h : MAt w l M) (n : Int) (s : Bool) :
    Calls Tryz.prog 181 #[.pointer (some ⟨l.m, 0, none⟩), lnk n s] w fun e w' => e = .returned (.int .i64 (M.leadsTo n s)) ∧ Fr (fun _ => False) w w' := by
  have hs := h.nsmall
  have HB := (show Hid (Boxed _ _ _ _ _ _ _) from Boxed.new h n s)
  have hc := HB.out.mem.hd.cell
  have hb := HB.out.box.cell
  clear h
  unfold lnk
  go_enter Tryz.func181, Tryz.ntmps181
  go_wp2_with fail
  refine (hasLink_calls HB.out.mem n s).mono ?_
  rintro e w1 ⟨rfl, hF⟩
  have HB1 := (show Hid (Boxed _ _ _ _ _ _ _) from HB.out.step hF)
  clear hF HB hc hb
  have hc := HB1.out.mem.hd.cell
  have hb := HB1.out.box.cell
  cases hl : M.hasLink n s
  · have hE : Hid (M.leadsTo n s = -1) := by show _ = _; simp [PMem.leadsTo, hl]
    go_wp2
    go_ret
    exact ⟨ret_int hE.out.symm, HB1.out.fr⟩
  · have hn : M.hasNode n = true := by unfold PMem.hasLink at hl; simp at hl; exact hl.1
    obtain ⟨k, x, rfl, hlt, hx, hnode⟩ := hasNode_get hn
    have hE : Hid (M.leadsTo k s = x.leads s) := by show _ = _; simp [PMem.leadsTo, hl, hnode]
    have c8 := MemAt.node HB1.out.mem hx (j := 8) (u := .int .i64 (x.leads false)) rfl
    have c9 := MemAt.node HB1.out.mem hx (j := 9) (u := .int .i64 (x.leads true)) rfl
    clear hn hx hnode
    cases s
    all_goals
      simp only [b2i_true, b2i_false] at hb ⊢
      go_wp2_with fail
      go_quiet (fail)
      go_wp2
      go_ret
      exact ⟨ret_int hE.out.symm, (HB1.out.drewN _).fr⟩

set_option maxHeartbeats 2000000 in
theorem Lead_calls (h : MAt w l M) (n : Int) (s : Bool) :
    Calls Tryz.prog 137 #[.pointer (some ⟨l.m, 0, none⟩), lnk n s] w fun e w' => e = .returned (.tuple #[]) ∧ MAt w' l (M.lead n s) ∧ MFr l w w' := by
  have hs := h.nsmall
  have hes := h.esmall
  have HB := (show Hid (Boxed _ _ _ _ _ _ _) from Boxed.new h n s)
  have hc := HB.out.mem.hd.cell
  have hb := HB.out.box.cell
  clear h
  unfold lnk
  go_enter Tryz.func137, Tryz.ntmps137
  go_wp2_with fail
  refine (pending_calls HB.out.mem n s).mono ?_
  rintro e w1 ⟨rfl, hF⟩
  have HB1 := (show Hid (Boxed _ _ _ _ _ _ _) from HB.out.step hF)
  clear hF HB hc hb
  have hc := HB1.out.mem.hd.cell
  have hb := HB1.out.box.cell
  go_wp2_with fail
  refine (hasEntry_calls HB1.out.mem _).mono ?_
  rintro e w' ⟨rfl, rfl⟩
  cases he : M.hasEntry (M.pending n s)
  · have hE : Hid (M.lead n s = M) := by show _ = _; simp [PMem.lead, he]
    go_wp2
    refine bodyPost_ret (results_none rfl _ _ _) rfl ?_
    exact ⟨rfl, by rw [hE.out]; exact HB1.out.mem, .of0 HB1.out.fr⟩
  · go_wp2_with fail
    refine (hasLink_calls HB1.out.mem n s).mono ?_
    rintro e w2 ⟨rfl, hF⟩
    have HB2 := (show Hid (Boxed _ _ _ _ _ _ _) from HB1.out.step hF)
    clear hF HB1 hc hb
    have hc := HB2.out.mem.hd.cell
    have hb := HB2.out.box.cell
    cases hl : M.hasLink n s
    · have hE : Hid (M.lead n s = M) := by show _ = _; simp [PMem.lead, he, hl]
      go_wp2
      refine bodyPost_ret (results_none rfl _ _ _) rfl ?_
      exact ⟨rfl, by rw [hE.out]; exact HB2.out.mem, .of0 HB2.out.fr⟩
    · have hn : M.hasNode n = true := by unfold PMem.hasLink at hl; simp at hl; exact hl.1
      have hE : Hid (M.lead n s = M.modN n fun x => { x with leads := upd x.leads s (M.ent (M.pending n s)).dst }) := by show _ = _; simp [PMem.lead, he, hl]
      obtain ⟨k, x, rfl, hlt, hx, hnode⟩ := hasNode_get hn
      obtain ⟨h0, h1⟩ := isIn_iff.1 he
      obtain ⟨q, hq⟩ := Int.eq_ofNat_of_zero_le h0
      rw [hq] at hE ⊢
      have hqlt : q < M.es.length := by omega
      have hy : M.es[q]? = some M.es[q] := List.getElem?_eq_getElem hqlt
      generalize M.es[q] = y at hy
      have hd : M.ent (q : Int) = y := by simp [PMem.ent, hy]
      rw [hd] at hE
      have HX := (show Hid (M.ns[k]? = some x) from hx)
      have c8 := MemAt.node HB2.out.mem hx (j := 8) (u := .int .i64 (x.leads false)) rfl
      have c9 := MemAt.node HB2.out.mem hx (j := 9) (u := .int .i64 (x.leads true)) rfl
      have d4 := MemAt.ent HB2.out.mem hy (j := 4) (u := .int .i64 y.dst) rfl
      have hf := ownsRow_frozen HB2.out.mem.nodes
      clear hn hx hnode hy hd he h0 h1 hq hl
      cases s
      · simp only [b2i_true, b2i_false] at hb ⊢
        go_wp2_with fail
        go_region
        go_wp2
        go_end0
        refine ⟨rfl, by rw [hE.out]; exact MemAt.drew (MAt.nodeSet HX.out _ (MemAt.setNode HB2.out.mem HX.out 8 { x with leads := upd x.leads false y.dst } (.int .i64 y.dst) (by decide) rfl) _ rfl), (MFr.of0 HB2.out.fr).trans ?_⟩
        unfold MFr
        repeat (with_reducible first | refine Fr.setIn (.inl rfl) ?_ _ _ | refine Fr.drewN ?_ _ | refine Fr.drew ?_ | exact Fr.refl _ _)
      · simp only [b2i_true, b2i_false] at hb ⊢
        go_wp2_with fail
        go_region
        go_wp2
        go_end0
        refine ⟨rfl, by rw [hE.out]; exact MemAt.drew (MAt.nodeSet HX.out _ (MemAt.setNode HB2.out.mem HX.out 9 { x with leads := upd x.leads true y.dst } (.int .i64 y.dst) (by decide) rfl) _ rfl), (MFr.of0 HB2.out.fr).trans ?_⟩
        unfold MFr
        repeat (with_reducible first | refine Fr.setIn (.inl rfl) ?_ _ _ | refine Fr.drewN ?_ _ | refine Fr.drew ?_ | exact Fr.refl _ _)

set_option maxHeartbeats 2000000 in
theorem Unpend_calls (h : MAt w l M) (n : Int) (s : Bool) :
    Calls Tryz.prog 189 #[.pointer (some ⟨l.m, 0, none⟩), lnk n s] w fun e w' => e = .returned (.tuple #[]) ∧ MAt w' l (M.unpend n s) ∧ MFr l w w' := by
  have hs := h.esmall
  have HB := (show Hid (Boxed _ _ _ _ _ _ _) from Boxed.new h n s)
  have hc := HB.out.mem.hd.cell
  have hb := HB.out.box.cell
  clear h
  unfold lnk
  go_enter Tryz.func189, Tryz.ntmps189
  go_wp2_with fail
  refine (pending_calls HB.out.mem n s).mono ?_
  rintro e w1 ⟨rfl, hF⟩
  have HB1 := (show Hid (Boxed _ _ _ _ _ _ _) from HB.out.step hF)
  clear hF HB hc hb
  have hc := HB1.out.mem.hd.cell
  have hb := HB1.out.box.cell
  go_wp2_with fail
  refine (hasEntry_calls HB1.out.mem _).mono ?_
  rintro e w' ⟨rfl, rfl⟩
  cases he : M.hasEntry (M.pending n s)
  · have hE : Hid (M.unpend n s = M) := by show _ = _; simp [PMem.unpend, he]
    go_wp2
    refine bodyPost_ret (results_none rfl _ _ _) rfl ?_
    exact ⟨rfl, by rw [hE.out]; exact HB1.out.mem, .of0 HB1.out.fr⟩
  · have hE : Hid (M.unpend n s = M.setE (M.pending n s) PEntry.zero) := by show _ = _; simp [PMem.unpend, he]
    obtain ⟨h0, h1⟩ := isIn_iff.1 he
    obtain ⟨k, hk⟩ := Int.eq_ofNat_of_zero_le h0
    rw [hk] at hE ⊢
    have hlt : k < M.es.length := by omega
    have hx : Hid (M.es[k]? = some M.es[k]) := List.getElem?_eq_getElem hlt
    generalize M.es[k] = x at hx
    have c0 := MemAt.ent HB1.out.mem hx.out (j := 0) (u := .bool x.used) rfl
    have c1 := MemAt.ent HB1.out.mem hx.out (j := 1) (u := .bool x.pending) rfl
    have c2 := MemAt.ent HB1.out.mem hx.out (j := 2) (u := .int .i64 x.src) rfl
    have c3 := MemAt.ent HB1.out.mem hx.out (j := 3) (u := .int .i64 (b2i x.side)) rfl
    have c4 := MemAt.ent HB1.out.mem hx.out (j := 4) (u := .int .i64 x.dst) rfl
    have c5 := MemAt.ent HB1.out.mem hx.out (j := 5) (u := .int .i64 x.stamp) rfl
    rw [Nat.add_zero] at c0
    have hf := ownsRow_frozen HB1.out.mem.ents
    clear he h0 h1 hk
    go_wp2
    go_end0
    rw [hE.out]
    refine ⟨rfl, MemAt.putEnt HB1.out.mem hx.out PEntry.zero, (MFr.of0 HB1.out.fr).trans ?_⟩
    unfold MFr
    repeat (with_reducible first | refine Fr.setIn (.inr rfl) ?_ _ _ | refine Fr.drewN ?_ _ | refine Fr.drew ?_ | exact Fr.refl _ _)

set_option maxHeartbeats 2000000 in
theorem HasPending_calls (h : MAt w l M) (n : Int) (s : Bool) :
    Calls Tryz.prog 127 #[.pointer (some ⟨l.m, 0, none⟩), lnk n s] w fun e w' => e = .returned (.bool (M.hasPending n s)) ∧ Fr (fun _ => False) w w' := by
  have HB := (show Hid (Boxed _ _ _ _ _ _ _) from Boxed.new h n s)
  have hc := HB.out.mem.hd.cell
  have hb := HB.out.box.cell
  clear h
  unfold lnk
  go_enter Tryz.func127, Tryz.ntmps127
  go_wp2_with fail
  refine (pending_calls HB.out.mem n s).mono ?_
  rintro e w1 ⟨rfl, hF⟩
  have HB1 := (show Hid (Boxed _ _ _ _ _ _ _) from HB.out.step hF)
  clear hF HB hc hb
  go_wp2
  go_ret
  exact ⟨ret_bool rfl, HB1.out.fr⟩

set_option maxHeartbeats 1000000 in
theorem Other_calls (n : Int) (s : Bool) (w : World) :
    Calls Tryz.prog 188 #[lnk n s] w fun e w' => e = .returned (lnk n (!s)) ∧ Fr (fun _ => False) w w' := by
  have hA := (At.new w [.int .i64 n, .int .i64 (b2i s)] 109).cell
  unfold lnk
  cases s
  all_goals
    simp only [b2i_true, b2i_false] at hA ⊢
    go_enter Tryz.func188, Tryz.ntmps188
    go_wp2
    refine bodyPost_ret (v := .agg #[.int .i64 n, _]) (by simp [results, Tryz.results188, go_sem, b2i]; rfl) rfl ?_
    refine ⟨by simp [b2i], ?_⟩
    repeat (with_reducible first | refine Fr.alloc ?_ _ | exact Fr.refl _ _)
end
end Go.Proofs.YtfccelbmacjifaaGreat

namespace Go.Proofs.YtfccelbmacjifaaGreat
open Go.RowKit
theorem count_take {α : Type} (p : α → Bool) (l : List α) (k : Nat) (x : α) (hx : l[k]? = some x) : count p (l.take (k + 1)) = count p (l.take k) + if p x then 1 else 0 := by
  have hk := (List.getElem?_eq_some_iff.1 hx).1
  have he := (List.getElem?_eq_some_iff.1 hx).2
  unfold count
  rw [List.take_succ_eq_append_getElem hk, List.filter_append, List.length_append, he]
  by_cases h : p x = true <;> simp [h]
theorem count_le {α : Type} (p : α → Bool) (l : List α) (k : Nat) : count p (l.take k) ≤ k := by
  unfold count
  have := List.length_filter_le p (l.take k)
  have := List.length_take_le k l
  omega

section
variable {w : World} {l : MLay} {M : PMem}
set_option maxHeartbeats 800000 in
theorem MRoom_calls (h : MAt w l M) :
    Calls Tryz.prog 100 #[.pointer (some ⟨l.m, 0, none⟩)] w fun e w' => e = .returned (.tuple #[.int .i64 M.room.1, .int .i64 M.room.2]) ∧ w' = w := by
  have hc := h.hd.cell
  have hs := h.esmall
  have hn := h.nsmall
  have H : Hid (MAt w l M) := h
  clear h
  go_enter Tryz.func100, Tryz.ntmps100
  go_wp2
  go_loop [4, 5, 13] (fun c _ i => ∃ k : Nat, k ≤ M.ns.length ∧ i = .int .i64 k ∧ c = .int .i64 (count (fun x => !x.used) (M.ns.take k))) (fun _ _ i => M.ns.length - (intOf i).toNat)
  case atStart => exact ⟨0, Nat.zero_le _, rfl, rfl⟩
  case round =>
    obtain ⟨k, hk, rfl, rfl⟩ := hrel
    have hb := count_le (fun x : PNode => !x.used) M.ns k
    by_cases hlt : k < M.ns.length
    · have hx : Hid (M.ns[k]? = some M.ns[k]) := List.getElem?_eq_getElem hlt
      generalize M.ns[k] = x at hx
      have c0 := MemAt.node H.out hx.out (j := 5) (u := .bool x.used) rfl
      have hn : Hid (count (fun x => !x.used) (M.ns.take (k + 1)) = count (fun x => !x.used) (M.ns.take k) + if !x.used then 1 else 0) := count_take _ M.ns k x hx.out
      cases hu : x.used
      · rw [hu] at c0 hn
        go_wp2
        go_round
        case rel => exact ⟨k + 1, by omega, by go_num, by rw [hn.out]; go_num⟩
        case measure => simp [intOf]; omega
      · rw [hu] at c0 hn
        go_wp2
        go_round
        case rel => exact ⟨k + 1, by omega, by go_num, by rw [hn.out]; go_num⟩
        case measure => simp [intOf]; omega
    · have hk' : k = M.ns.length := by omega
      subst hk'
      rw [List.take_length]
      clear hb
      go_wp2
      go_loop [6, 7, 33] (fun c _ i => ∃ k : Nat, k ≤ M.es.length ∧ i = .int .i64 k ∧ c = .int .i64 (count (fun x => !x.used) (M.es.take k))) (fun _ _ i => M.es.length - (intOf i).toNat)
      case atStart => exact ⟨0, Nat.zero_le _, rfl, rfl⟩
      case round =>
        obtain ⟨k, hk, rfl, rfl⟩ := hrel
        have hb := count_le (fun x : PEntry => !x.used) M.es k
        by_cases hlt : k < M.es.length
        · have hx : Hid (M.es[k]? = some M.es[k]) := List.getElem?_eq_getElem hlt
          generalize M.es[k] = x at hx
          have c0 := MemAt.ent H.out hx.out (j := 0) (u := .bool x.used) rfl
          rw [Nat.add_zero] at c0
          have hn : Hid (count (fun x => !x.used) (M.es.take (k + 1)) = count (fun x => !x.used) (M.es.take k) + if !x.used then 1 else 0) := count_take _ M.es k x hx.out
          cases hu : x.used
          · rw [hu] at c0 hn
            go_wp2
            go_round
            case rel => exact ⟨k + 1, by omega, by go_num, by rw [hn.out]; go_num⟩
            case measure => simp [intOf]; omega
          · rw [hu] at c0 hn
            go_wp2
            go_round
            case rel => exact ⟨k + 1, by omega, by go_num, by rw [hn.out]; go_num⟩
            case measure => simp [intOf]; omega
        · have hk' : k = M.es.length := by omega
          subst hk'
          rw [List.take_length]
          clear hb
          go_wp2
          go_ret2
          exact ⟨rfl, rfl⟩
end
end Go.Proofs.YtfccelbmacjifaaGreat

