import Derived.Test.YtfccelbmacjifaaGreatP24
import Derived.Test.YtfccelbmacjifaaGreatP0
import Derived.Deep.SlicePairs
import Derived.Deep.Slices
import Derived.OpenShut
import Derived.Laws.CopyRow
import Derived.Laws.IdiomCopy
import Derived.Laws.MakeOwn
set_option linter.unusedSimpArgs false
namespace Go.Proofs.YtfccelbmacjifaaGreat
open Go.RowKit
theorem pair_len (p : Int × Int) : (pairCells p).length = 2 := rfl
theorem pairs_get {ps : List (Int × Int)} {i : Nat} {p : Int × Int} (h : ps[i]? = some p) : (ps.flatMap pairCells)[i * 2]? = some (.int .i64 p.1) ∧ (ps.flatMap pairCells)[i * 2 + 1]? = some (.int .i64 p.2) := by
  have h0 := tab_get pairCells 2 pair_len ps i 0 p h (by omega)
  have h1 := tab_get pairCells 2 pair_len ps i 1 p h (by omega)
  exact ⟨by simpa [pairCells] using h0, by simpa [pairCells] using h1⟩
theorem cell_heap {w w' : World} {a : Addr} (h : w'.heap[a.block]? = w.heap[a.block]?) : w'.cell? a = w.cell? a := by
  unfold World.cell?; rw [h]
theorem cell_lt {w : World} {a : Addr} {v : Value} (h : w.cell? a = some v) : a.block < w.heap.size := by
  rcases Nat.lt_or_ge a.block w.heap.size with h1 | h1
  · exact h1
  · unfold World.cell? at h; rw [Array.getElem?_eq_none h1] at h; simp at h
theorem Fr.calmCell {w w' : World} (hf : Fr (fun _ => False) w w') {a : Addr} {v : Value} (h : w.cell? a = some v) : w'.cell? a = some v := by
  rw [cell_heap (hf.block a.block (cell_lt h) (fun hh => hh))]; exact h
set_option maxHeartbeats 1000000 in
set_option maxRecDepth 100000 in
theorem sameSpans_calls (w : World) (a b : Option Addr) (n ca cb : Nat) (ps : List (Int × Int)) (hn : ps.length = n)
    (ha : ∀ (i : Nat) p, ps[i]? = some p → ∃ g, a = some ⟨g, 0, none⟩ ∧ w.cell? ⟨g, i * 2, none⟩ = some (.int .i64 p.1) ∧ w.cell? ⟨g, i * 2 + 1, none⟩ = some (.int .i64 p.2))
    (hb : ∀ (i : Nat) p, ps[i]? = some p → ∃ g, b = some ⟨g, 0, none⟩ ∧ w.cell? ⟨g, i * 2, none⟩ = some (.int .i64 p.1) ∧ w.cell? ⟨g, i * 2 + 1, none⟩ = some (.int .i64 p.2)) (hsm : n ≤ 2 ^ 40) :
    Calls Tryz.prog 39 #[.slice a n ca, .slice b n cb] w fun r w' => r = .returned (.bool true) ∧ Fr (fun _ => False) w w' := by
  have HA := (show Hid (∀ (i : Nat) p, _) from ha)
  have HB := (show Hid (∀ (i : Nat) p, _) from hb)
  have HN := (show Hid (ps.length = n) from hn)
  have hnn : ((n : Int) != (n : Int)) = false := by simp
  clear ha hb hn
  go_enter Tryz.func39, Tryz.ntmps39
  go_wp2
  go_loopw [5] (fun v wr => ∃ j : Nat, j ≤ n ∧ v = .int .i64 j ∧ Hid (Fr (fun _ => False) w wr)) (fun v _ => n - (intOf v).toNat)
  case atStart => exact ⟨0, by omega, rfl, Fr.refl _ _⟩
  case round =>
    obtain ⟨j, hj, rfl, HF⟩ := hrel
    by_cases hlt : j < n
    · have hp : ps[j]? = some (ps[j]'(by rw [HN.out]; exact hlt)) := List.getElem?_eq_getElem _
      generalize ps[j]'(by rw [HN.out]; exact hlt) = p at hp
      obtain ⟨ga, rfl, a1, a2⟩ := HA.out j p hp
      obtain ⟨gb, rfl, b1, b2⟩ := HB.out j p hp
      have a1 := HF.out.calmCell a1
      have a2 := HF.out.calmCell a2
      have b1 := HF.out.calmCell b1
      have b2 := HF.out.calmCell b2
      obtain ⟨p1, p2⟩ := p
      simp only at a1 a2 b1 b2
      clear hp
      go_wp2_with fail
      go_region
      go_wp2
      go_roundw
      case rel => exact ⟨j + 1, by omega, by go_num, by show Fr _ _ _; repeat (with_reducible first | refine Fr.drewN ?_ _ | refine Fr.drew ?_ | exact HF.out)⟩
      case measure => simp [intOf]; omega
    · go_wp2
      go_ret
      exact ⟨rfl, HF.out⟩

theorem Row.pairs {own : Own} {z : Nat} {w : World} {tag : Tag} {v : Value} {ps : List (Int × Int)} (h : Row own z w tag 138 2 v ps.length (ps.flatMap pairCells)) :
    ∃ a c, v = .slice a ps.length c ∧ ∀ (i : Nat) p, ps[i]? = some p → ∃ g, a = some ⟨g, 0, none⟩ ∧ w.cell? ⟨g, i * 2, none⟩ = some (.int .i64 p.1) ∧ w.cell? ⟨g, i * 2 + 1, none⟩ = some (.int .i64 p.2) := by
  by_cases hn : ps.length = 0
  · obtain ⟨a, c, hv, _⟩ := h.shape
    refine ⟨a, c, hv, ?_⟩
    intro i p hp
    rw [List.eq_nil_of_length_eq_zero hn] at hp; simp at hp
  · obtain ⟨g, c, hv, _⟩ := ownsRow_shape h.row hn
    refine ⟨_, c, hv, ?_⟩
    intro i p hp
    have ho := h.row
    rw [hv] at ho
    obtain ⟨h1, h2⟩ := pairs_get hp
    exact ⟨g, rfl, ownsRow_cell ho h1, ownsRow_cell ho h2⟩
section
variable {J : Own → World → Nat → Nat → Nat → Prop} {ok : Int → Prop} {w0 : Root} {w w' : World} {wb x y N G : Nat} {k t n e l : Int}
theorem giv_len (g : Giv) : (givCells g).length = 2 := rfl
set_option maxHeartbeats 4000000 in
set_option maxRecDepth 100000 in
theorem looks_calls {own : Own} {gv : Value} {gs : List Giv} (hC : CAt own w wb x y k t n e l gv gs) (hG : gs.length ≤ 2 ^ 40) :
    Calls Tryz.prog 18 #[pv wb] w fun r w' => r = .returned (.bool true) ∧ Fr (fun _ => False) w w' := by
  obtain ⟨ga, gc, rfl, hgx⟩ := hC.row.shape
  have HC := (show Hid (CAt own w wb x y k t n e l _ gs) from hC)
  have HP := (show Hid (∀ g ∈ gs, g.ps.length ≤ 2 ^ 40) from fun g hg => Nat.le_trans (hC.sz g hg) (by decide))
  have HGX := (show Hid (gs.length ≠ 0 → _) from hgx)
  have hc := hC.at_.cell
  simp only [wcells, pv] at hc
  clear hC hgx
  unfold pv
  go_enter Tryz.func18, Tryz.ntmps18
  go_wp2_with fail
  refine wp_loop_rounds 1 ?_
  rw [rounds_succ]
  go_wp2_with fail
  refine wp_loop_rounds 1 ?_
  rw [rounds_succ]
  go_wp2
  clear hc
  go_loopw [8] (fun v wr => ∃ j : Nat, j ≤ gs.length ∧ v = .int .i64 j ∧ Hid (Fr (fun _ => False) w wr)) (fun v _ => gs.length - (intOf v).toNat)
  case atStart => exact ⟨0, by omega, rfl, Fr.refl _ _⟩
  case round =>
    obtain ⟨j, hj, rfl, HF⟩ := hrel
    have HC1 := (show Hid (CAt own wr wb x y k t n e l _ gs) from HC.out.fr HF.out (Ext.refl _ _) (fun _ _ h => h.elim))
    have hc := HC1.out.at_.cell
    simp only [wcells, pv] at hc
    by_cases hlt : j < gs.length
    · obtain ⟨gb, rfl, _⟩ := HGX.out (by omega)
      have hg : gs[j]? = some gs[j] := List.getElem?_eq_getElem hlt
      have hgp := HP.out _ (List.getElem_mem hlt)
      generalize gs[j] = g at hg hgp
      obtain ⟨r1, r2⟩ := HC1.out.lst j g hg
      obtain ⟨va, vc, hv1, q1⟩ := r1.pairs
      obtain ⟨ua, uc, hv2, q2⟩ := r2.pairs
      have c1 : wr.cell? ⟨gb, j * 2, none⟩ = some (.slice va g.ps.length vc) := by
        rw [← hv1]; exact ownsRow_cell HC1.out.row.row (by have := tab_get givCells 2 giv_len gs j 0 g hg (by omega); simpa [givCells] using this)
      have c2 : wr.cell? ⟨gb, j * 2 + 1, none⟩ = some (.slice ua g.ps.length uc) := by
        rw [← hv2]; exact ownsRow_cell HC1.out.row.row (by have := tab_get givCells 2 giv_len gs j 1 g hg (by omega); simpa [givCells] using this)
      have HQ1 := (show Hid (∀ (i : Nat) p, _) from q1)
      have HQ2 := (show Hid (∀ (i : Nat) p, _) from q2)
      clear hg r1 r2 hv1 hv2 q1 q2
      have HB := (show Hid (At wr wb _ _) from HC1.out.at_)
      go_wp2_with fail
      refine wp_region_calm [16] 0 rfl (by kernel_rfl) (by kernel_rfl) (by kernel_rfl) (by decide) (by kernel_rfl) (by decide) ?_
      intro U W hU hW
      have hau : ∀ u o, (W u).cell? ⟨wb, o, none⟩ = (wcells x y k t n e l (.slice (some ⟨gb, 0, none⟩) gs.length gc))[o]? := fun u => ((hW u).at HB.out (fun h => h)).cell
      have d1 : ∀ u, (W u).cell? ⟨gb, j * 2, none⟩ = some (.slice va g.ps.length vc) := fun u => (hW u).calmCell c1
      have d2 : ∀ u, (W u).cell? ⟨gb, j * 2 + 1, none⟩ = some (.slice ua g.ps.length uc) := fun u => (hW u).calmCell c2
      simp only [wcells, pv] at hau
      clear hW hc c1 c2
      repeat (refine mix_read rfl rfl ?_; go_big_quiet_step (fail); refine wpQuiet_nil ?_)
      refine mix_effC (.bool true) rfl rfl rfl ?_ ?_
      · intro w' hw'
        go_simp
        refine (sameSpans_calls w' va ua g.ps.length vc uc g.ps rfl ?_ ?_ hgp).mono ?_
        · intro i p hp
          obtain ⟨z, h1, h2, h3⟩ := HQ1.out i p hp
          exact ⟨z, h1, hw'.calmCell h2, hw'.calmCell h3⟩
        · intro i p hp
          obtain ⟨z, h1, h2, h3⟩ := HQ2.out i p hp
          exact ⟨z, h1, hw'.calmCell h2, hw'.calmCell h3⟩
        · rintro e w'' ⟨rfl, hF⟩
          exact ⟨rfl, hw'.trans hF⟩
      go_simp
      repeat (refine mix_read rfl rfl ?_; go_big_quiet_step (fail); refine wpQuiet_nil ?_)
      refine mix_nil ?_
      intro w2 hw2
      have HF2 := (show Hid (Fr _ _ _) from HF.out.trans hw2)
      clear hau d1 d2 hw2
      go_wp2
      go_roundw
      case rel => exact ⟨j + 1, by omega, by go_num, HF2⟩
      case measure => simp [intOf]; omega
    · go_wp2
      go_ret
      exact ⟨rfl, HF.out⟩

set_option maxHeartbeats 1000000 in
theorem last_calls (S : Sides J ok) (h : LawAt J w0 w wb k t n e l N G) (ht : 0 ≤ t ∧ t ≤ 8) (hN : N ≤ 2 ^ 39) (hG : G ≤ 2 ^ 40) :
    Calls Tryz.prog 19 #[pv wb] w fun r w' => r = .returned (.bool true) ∧ Fr (fun _ => False) w w' := by
  obtain ⟨t0, t1⟩ := ht
  have HS := (show Hid (Sides J ok) from S)
  have HL := (show Hid (LawAt J w0 w wb k t n e l N G) from h)
  clear h S
  unfold pv
  go_enter Tryz.func19, Tryz.ntmps19
  go_wp2
  go_loopw [3] (fun i wr => ∃ j : Nat, (j : Int) ≤ t + 2 ∧ i = .int .i64 (j - 1) ∧ Hid (Fr (fun _ => False) w wr)) (fun i _ => (t + 2 - (intOf i + 1)).toNat)
  case atStart => exact ⟨0, by omega, rfl, Fr.refl _ _⟩
  case round =>
    obtain ⟨j, hj, rfl, HF⟩ := hrel
    have HL1 := (show Hid (LawAt J w0 wr wb k t n e l N G) from HL.out.calm HS.out HF.out)
    obtain ⟨x, y, gv, hA⟩ := HL1.out.at_
    have hc := hA.cell
    simp only [wcells, pv] at hc
    clear hA
    by_cases hlt : (j : Int) < t + 2
    · go_wp2_with fail
      refine (lanswers_calls HS.out HL1.out _).mono ?_
      rintro r w1 ⟨rfl, hF1⟩
      have HF1 := (show Hid (Fr _ _ _) from HF.out.trans hF1)
      clear hF1
      go_wp2
      go_roundw
      case rel => exact ⟨j + 1, by omega, by go_num, HF1⟩
      case measure => simp [intOf]; omega
    · go_wp2_with fail
      refine (lroom_calls HS.out HL1.out hN).mono ?_
      rintro r w1 ⟨rfl, rfl⟩
      go_wp2_with fail
      refine (lclock_calls HS.out HL1.out).mono ?_
      rintro r w1 ⟨rfl, rfl⟩
      go_wp2_with fail
      obtain ⟨own, x', y', gv', gs, _, hC, hg, _, _⟩ := HL1.out
      refine (looks_calls hC (Nat.le_trans hg hG)).mono ?_
      rintro r w1 ⟨rfl, hF1⟩
      have HF1 := (show Hid (Fr _ _ _) from HF.out.trans hF1)
      clear hF1 hC
      go_wp2
      go_ret
      exact ⟨rfl, HF1.out⟩
end
end Go.Proofs.YtfccelbmacjifaaGreat

set_option linter.unusedSimpArgs false
namespace Go.Proofs.YtfccelbmacjifaaGreat
open Go.RowKit Go.Deep
def spanCells (p : Int × Int) : List Value := [.int .i64 p.1, .int .i64 p.2]
/-- The elements of a slice of two numbers each, wherever it lies. -/
def Spans (w : World) (sa : Option Addr) (n : Nat) (ps : List (Int × Int)) : Prop :=
  ps.length = n ∧ (0 < n → ∃ ad, sa = some ad ∧ ∀ (j : Nat) v, (ps.flatMap spanCells)[j]? = some v → w.cell? (ad.add j) = some v)
structure ActD where
  kd : Int
  tt : Int
  o : Int
  ky : Int
  v : Int
  m : Int
  sa : Option Addr
  sn : Nat
  sc : Nat
  ps : List (Int × Int)
  deriving Inhabited
def actCells (a : ActD) : List Value := [.int .i64 a.kd, .int .i64 a.tt, .int .i64 a.o, .int .i64 a.ky, .int .i64 a.v, .int .i64 a.m, .slice a.sa a.sn a.sc]
def ActIn (w : World) (sa : Option Addr) (i : Nat) (a : ActD) : Prop :=
  ∃ b off, sa = some ⟨b, off, none⟩ ∧ (∀ j v, (actCells a)[j]? = some v → w.cell? ⟨b, off + (i * 7 + j), none⟩ = some v) ∧ Spans w a.sa a.sn a.ps ∧ -9223372036854775808 ≤ a.m ∧ a.m ≤ 9223372036854775807
section
variable {H : Type} {enc : TypeId × Value → H} {P : Program} {w : World} {base : Nat} {spare : Nat → Bool} {held : Bool} {B : DataW H → Nat}
theorem flat2_get (f : Nat → Int × Int) (n i : Nat) (h : i < n) : (((List.range n).map f).flatMap spanCells)[i * 2]? = some (.int .i64 (f i).1) ∧ (((List.range n).map f).flatMap spanCells)[i * 2 + 1]? = some (.int .i64 (f i).2) := by
  have hg : ((List.range n).map f)[i]? = some (f i) := by simp [h]
  have h0 := tab_get spanCells 2 (fun _ => rfl) _ i 0 _ hg (by omega)
  have h1 := tab_get spanCells 2 (fun _ => rfl) _ i 1 _ hg (by omega)
  exact ⟨by simpa [spanCells] using h0, by simpa [spanCells] using h1⟩
theorem spans_open {t e ti : TypeId} {f0 f1 : Field} {fuel : Nat} {cs : List Value} {x : DataW H × List MemPlace} (ht : P.underlying t = some (.slice e)) (he : P.underlying e = some (.struct #[f0, f1]))
    (ce : P.cellsOf e = 2) (o0 : f0.offset = 0) (o1 : f1.offset = 1) (t0 : f0.type = ti) (t1 : f1.type = ti) (ci : P.cellsOf ti = 1) (hi : P.underlying ti = some (.int .i64))
    (hB : ∀ elems sp, elems.length ≤ B (.slice elems sp)) (h : DataW.trod enc P w base spare held fuel t cs = some x) :
    ∃ sa n c ps, cs = [.slice sa n c] ∧ n ≤ B x.1 ∧ Spans w sa n ps := by
  rcases open_slice_pairs ht he ce o0 o1 (by rw [t0]; exact ci) (by rw [t1]; exact ci) h with ⟨rfl, rfl⟩ | ⟨a, len, cap, m, n, V0, V1, D0, D1, P0, P1, rfl, _, hl, _, hm, rfl, hx⟩
  · exact ⟨none, 0, 0, [], rfl, Nat.zero_le _, rfl, by omega⟩
  · have hlm : len ≤ m := by rw [hm]; split <;> omega
    have each : ∀ i, i < len → ∃ p : Int × Int, V0 i = .int .i64 p.1 ∧ V1 i = .int .i64 p.2 := by
      intro i hil
      obtain ⟨_, _, h3, h4⟩ := hx i (by omega)
      rw [t0] at h3
      rw [t1] at h4
      obtain ⟨a0, e0, _, _⟩ := DataW.trod_int hi h3
      obtain ⟨a1, e1, _, _⟩ := DataW.trod_int hi h4
      exact ⟨(a0, a1), by simpa using e0, by simpa using e1⟩
    obtain ⟨f, hf⟩ := choose_lt each
    refine ⟨some a, len, cap, (List.range len).map f, rfl, ?_, by simp, ?_⟩
    · have := hB ((List.range len).map fun i => .agg [D0 i, D1 i]) ((List.range (m - len)).map fun j => .agg [D0 (len + j), D1 (len + j)])
      simpa using this
    · intro _
      refine ⟨a, rfl, ?_⟩
      intro j v hj
      have hjl : j < len * 2 := by
        have := (List.getElem?_eq_some_iff.1 hj).1
        have h2 : (((List.range len).map f).flatMap spanCells).length = len * 2 := by
          rw [tab_len spanCells 2 (fun _ => rfl)]; simp
        omega
      obtain ⟨c0, c1, _, _⟩ := hx (j / 2) (by omega)
      obtain ⟨g0, g1⟩ := flat2_get f len (j / 2) (by omega)
      obtain ⟨v0, v1⟩ := hf (j / 2) (by omega)
      rcases (show j = j / 2 * 2 ∨ j = j / 2 * 2 + 1 by omega) with hh | hh
      · rw [hh, g0] at hj
        rw [hh, c0, v0]
        exact congrArg some (Option.some.inj hj)
      · rw [hh, g1] at hj
        rw [hh, c1, v1]
        exact congrArg some (Option.some.inj hj)
theorem list7 {α : Type} {l : List α} (h : l.length = 7) : ∃ a b c d e f g, l = [a, b, c, d, e, f, g] := by
  match l, h with
  | [a, b, c, d, e, f, g], _ => exact ⟨a, b, c, d, e, f, g, rfl⟩
theorem script_open {tS tA tL tP ti : TypeId} {f0 f1 f2 f3 f4 f5 f6 g0 g1 : Field} {fuel : Nat} {cs : List Value} {x : DataW H × List MemPlace} (hS : P.underlying tS = some (.slice tA)) (hA : P.underlying tA = some (.struct #[f0, f1, f2, f3, f4, f5, f6])) (cA : P.cellsOf tA = 7)
    (o0 : f0.offset = 0) (o1 : f1.offset = 1) (o2 : f2.offset = 2) (o3 : f3.offset = 3) (o4 : f4.offset = 4) (o5 : f5.offset = 5) (o6 : f6.offset = 6)
    (t0 : f0.type = ti) (t1 : f1.type = ti) (t2 : f2.type = ti) (t3 : f3.type = ti) (t4 : f4.type = ti) (t5 : f5.type = ti) (t6 : f6.type = tL) (ci : P.cellsOf ti = 1) (hi : P.underlying ti = some (.int .i64)) (cL : P.cellsOf tL = 1)
    (hL : P.underlying tL = some (.slice tP)) (hP : P.underlying tP = some (.struct #[g0, g1])) (cP : P.cellsOf tP = 2) (q0 : g0.offset = 0) (q1 : g1.offset = 1) (s0 : g0.type = ti) (s1 : g1.type = ti)
    (hB : ∀ elems sp, elems.length ≤ B (.slice elems sp)) (hE : ∀ elems sp d, d ∈ elems → B d ≤ B (.slice elems sp)) (hG : ∀ parts d, d ∈ parts → B d ≤ B (.agg parts))
    (h : DataW.trod enc P w base spare held fuel tS cs = some x) :
    ∃ sa n c, ∃ acts : List ActD, cs = [.slice sa n c] ∧ n ≤ B x.1 ∧ acts.length = n ∧ ∀ i a, acts[i]? = some a → ActIn w sa i a ∧ a.sn ≤ B x.1 := by
  rcases open_slice hS h with ⟨rfl, rfl⟩ | ⟨a, len, cap, m, n, D, Pl, rfl, _, hl, _, hm, rfl, hx⟩
  · exact ⟨none, 0, 0, [], rfl, Nat.zero_le _, rfl, by intro i a ha; simp at ha⟩
  · have hlm : len ≤ m := by rw [hm]; split <;> omega
    have hBl := hB ((List.range len).map D) ((List.range (m - len)).map fun j => D (len + j))
    have hEl : ∀ i, i < len → B (D i) ≤ B (.slice ((List.range len).map D) ((List.range (m - len)).map fun j => D (len + j))) := fun i hi => hE _ _ _ (by simp; exact ⟨i, hi, rfl⟩)
    simp only at hBl hEl ⊢
    generalize B (.slice ((List.range len).map D) ((List.range (m - len)).map fun j => D (len + j))) = bb at hBl hEl ⊢
    have each : ∀ i, i < len → ∃ y : ActD, ActIn w (some a) i y ∧ y.sn ≤ bb := by
      intro i hil
      obtain ⟨cs', h1, h2⟩ := hx i (by omega)
      rw [cA] at h1
      obtain ⟨_, hlen, hcell⟩ := World.cells?_some h1
      obtain ⟨xs, k, _, hxy, _, hxl, hf⟩ := DataW.trod_struct hA h2
      obtain ⟨c0, c1, c2, c3, c4, c5, c6, rfl⟩ := list7 hlen
      obtain ⟨y0, y1, y2, y3, y4, y5, y6, rfl⟩ := list7 (l := xs) hxl
      have k0 := hf 0 f0 rfl
      have k1 := hf 1 f1 rfl
      have k2 := hf 2 f2 rfl
      have k3 := hf 3 f3 rfl
      have k4 := hf 4 f4 rfl
      have k5 := hf 5 f5 rfl
      have k6 := hf 6 f6 rfl
      simp only [o0, o1, o2, o3, o4, o5, o6, t0, t1, t2, t3, t4, t5, t6, ci, cL] at k0 k1 k2 k3 k4 k5 k6
      simp at k0 k1 k2 k3 k4 k5 k6
      obtain ⟨a0, e0, _, _⟩ := DataW.trod_int hi k0
      obtain ⟨a1, e1, _, _⟩ := DataW.trod_int hi k1
      obtain ⟨a2, e2, _, _⟩ := DataW.trod_int hi k2
      obtain ⟨a3, e3, _, _⟩ := DataW.trod_int hi k3
      obtain ⟨a4, e4, _, _⟩ := DataW.trod_int hi k4
      obtain ⟨a5, e5, _, wf5⟩ := DataW.trod_int hi k5
      have b5 := Go.bounds_i64 wf5
      obtain ⟨sa, sn, sc, ps, e6, hsn, hsp⟩ := spans_open hL hP cP q0 q1 s0 s1 ci hi hB k6
      simp at e0 e1 e2 e3 e4 e5 e6
      subst e0 e1 e2 e3 e4 e5 e6
      have hd : B y6.1 ≤ B (D i) := by
        have hD : D i = .agg [y0.1, y1.1, y2.1, y3.1, y4.1, y5.1, y6.1] := by
          have := congrArg Prod.fst hxy
          simpa using this
        rw [hD]; exact hG _ _ (by simp)
      refine ⟨⟨a0, a1, a2, a3, a4, a5, sa, sn, sc, ps⟩, ?_, ?_⟩
      · obtain ⟨ab, ao, asp⟩ := a
        have hz := hcell 0 (by omega)
        have hspot : asp = none := by
          by_cases h0 : i = 0
          · subst h0; simpa [Addr.add] using World.cell?_spot hz
          · obtain ⟨cs0, z1, _⟩ := hx 0 (by omega)
            rw [cA] at z1
            obtain ⟨_, zl, zc⟩ := World.cells?_some z1
            have := zc 0 (by omega)
            rw [List.getElem?_eq_getElem (by omega)] at this
            simpa [Addr.add] using World.cell?_spot this
        subst hspot
        refine ⟨ab, ao, rfl, ?_, hsp, b5⟩
        intro j v hj
        have hj7 : j < 7 := (List.getElem?_eq_some_iff.1 hj).1
        have hc := hcell j hj7
        rw [add_add, Addr.add_lit] at hc
        rw [hc]
        exact hj
      · exact Nat.le_trans hsn (Nat.le_trans hd (hEl i hil))
    obtain ⟨f, hf⟩ := choose_lt each
    refine ⟨some a, len, cap, (List.range len).map f, rfl, by simpa using hBl, by simp, ?_⟩
    intro i y hy
    obtain ⟨hil, rfl⟩ : i < len ∧ f i = y := by
      by_cases hil : i < len
      · simp [hil] at hy; exact ⟨hil, hy⟩
      · simp [hil] at hy
    exact hf i hil
end
end Go.Proofs.YtfccelbmacjifaaGreat

set_option linter.unusedSimpArgs false
namespace Go.Proofs.YtfccelbmacjifaaGreat
open Go.RowKit
/-! ### copy of elements of two cells -/
theorem run_copy2 {P : Program} (w : World) (dT sT ty elem : TypeId) (g o dLen dCap : Nat) (a : Addr) (sLen sCap : Nat) (cur : Array Value) (t : TypeId) (cs : List Value)
    (hu : P.underlying dT = some (.slice elem)) (hs : (P.info? elem).map (·.size) = some 2)
    (hg : w.heap[g]? = some (.cells cur t (0, 0))) (m : Nat) (hm : m = Nat.min sLen dLen) (hn : cs.length = m * 2)
    (hsrc : ∀ j v, cs[j]? = some v → w.cell? (a.add j) = some v) (hfit : o + cs.length ≤ cur.size) (h1 : ∀ v ∈ cs, v.oneCell' = true) :
    (Builtin.copy_ #[dT, sT] ty #[.slice (some ⟨g, o, none⟩) dLen dCap, .slice (some a) sLen sCap]).run P w =
      .ok (goInt m) (w.setRow g (cur.toList.take o ++ cs ++ cur.toList.drop (o + cs.length)).toArray) := by
  have hl := run_loadCells_list (P := P) w a cs hsrc
  have hst := run_storeCells_at P g o t cs 0 cur w hg (by simpa using hfit) h1
  subst hm
  cases hq : P.info? elem with
  | none => simp [hq] at hs
  | some i =>
    have hi : i.size = 2 := by simpa [hq] using hs
    rw [hn] at hl
    simp [Builtin.copy_, run_underlying hu, Builtin.lenOf, Builtin.firstCells, sizeOf, typeInfo, hq, hi, hl, hst]
theorem run_copy0 {P : Program} (w : World) (dT sT ty elem : TypeId) (d a : Option Addr) (dLen dCap sLen sCap : Nat) (hu : P.underlying dT = some (.slice elem)) (hs : (P.info? elem).map (·.size) = some 2) (hn : Nat.min sLen dLen = 0) :
    (Builtin.copy_ #[dT, sT] ty #[.slice d dLen dCap, .slice a sLen sCap]).run P w = .ok (goInt 0) w := by
  cases hq : P.info? elem with
  | none => simp [hq] at hs
  | some i =>
    have hl : ∀ (x : Addr), (loadCells x 0).run P w = .ok #[] w := fun x => by simpa using run_loadCells_list (P := P) w x [] (by simp)
    cases d <;> cases a <;> simp [Builtin.copy_, run_underlying hu, Builtin.lenOf, Builtin.firstCells, sizeOf, typeInfo, hq, hn, storeCells, hl]

theorem span_pair : spanCells = pairCells := rfl
def actVal (a : ActD) : Value := .agg #[.int .i64 a.kd, .int .i64 a.tt, .int .i64 a.o, .int .i64 a.ky, .int .i64 a.v, .int .i64 a.m, .slice a.sa a.sn a.sc]
theorem pairs_len (ps : List (Int × Int)) : (ps.flatMap pairCells).length = ps.length * 2 := by
  induction ps with
  | nil => rfl
  | cons p r ih => simp only [List.flatMap_cons, List.length_append, ih, List.length_cons, pairCells, List.length_nil]; omega
theorem pairs_one (ps : List (Int × Int)) : ∀ v ∈ ps.flatMap pairCells, v.oneCell' = true := by
  intro v hv
  simp only [List.mem_flatMap, pairCells] at hv
  obtain ⟨p, _, hp⟩ := hv
  simp at hp
  rcases hp with rfl | rfl <;> rfl
theorem drop_pairs : ∀ (n : Nat) (ps : List (Int × Int)), (ps.flatMap pairCells).drop (n * 2) = (ps.drop n).flatMap pairCells
  | 0, ps => by simp
  | n + 1, [] => by simp
  | n + 1, p :: r => by
    rw [List.flatMap_cons, show (n + 1) * 2 = (pairCells p).length + n * 2 by simp [pairCells]; omega, ← List.drop_drop, List.drop_left, drop_pairs n r]
    rfl
theorem Fr.setRow {S : Nat → Prop} {a w : World} (h : Fr S a w) {g : Nat} (hg : S g) (cs : Array Value) : Fr S a (w.setRow g cs) :=
  h.trans ⟨rfl, rfl, rfl, by simp [World.setRow], fun k hk hS => setRow_other w g k cs (by rintro rfl; exact hS hg)⟩

theorem wpList_copy2e {P : Program} {w : World} {ops : Array Oper} {rest : List Oper} {o : Oper} {a : Go.Act} {Q : Exit → Go.Act → World → Prop} (hgd : o.guard = none) (d s : Operand) (dT sT : TypeId)
    (ho : o.op = .call { callee := .builtin .copy, args := #[d, s], argTypes := #[dT, sT] }) (elem : TypeId) (hu : P.underlying dT = some (.slice elem)) (hsz : (P.info? elem).map (·.size) = some 2)
    (sp : Option Addr) (g dLen dCap sLen sCap : Nat) (hd : a.eval d = .slice (some ⟨g, 0, none⟩) dLen dCap) (hs : a.eval s = .slice sp sLen sCap)
    (qs : List (Int × Int)) (t : TypeId) (hq : qs.length = dLen) (hA : At w g (qs.flatMap pairCells) t) (ps : List (Int × Int)) (hps : Spans w sp sLen ps) (hle : sLen ≤ dLen)
    (h : ∀ w', Hid (∃ fs : List (Int × Int), fs = ps ++ qs.drop sLen ∧ fs.length = dLen ∧ At w' g (fs.flatMap pairCells) t) → Hid (Fr (fun k => k = g) w w') → wpList P ops Q rest (a.put o.dst (goInt sLen)) w') :
    wpList P ops Q (o :: rest) a w := by
  obtain ⟨hl, hpos⟩ := hps
  rw [span_pair] at hpos
  have hmin : Nat.min sLen dLen = sLen := Nat.min_eq_left hle
  refine wpList_plain hgd fun K hK => ?_
  by_cases h0 : sLen = 0
  · have hrun := run_copy0 (P := P) w dT sT o.type elem (some ⟨g, 0, none⟩) sp dLen dCap sLen sCap hu hsz (by omega)
    unfold Oper.wp
    simp [execOp, ho, resolve, invoke, builtin, hd, hs, hrun, Result.andThen]
    have hp0 : ps = [] := List.eq_nil_of_length_eq_zero (by omega)
    have := hK _ _ (h w ⟨qs, by rw [hp0, h0]; rfl, hq, hA⟩ (Fr.refl _ _))
    rw [h0] at this
    exact this
  · obtain ⟨ad, rfl, hsrc⟩ := hpos (by omega)
    have hrun := run_copy2 (P := P) w dT sT o.type elem g 0 dLen dCap ad sLen sCap (qs.flatMap pairCells).toArray t (ps.flatMap pairCells) hu hsz hA sLen hmin.symm (by rw [pairs_len, hl]) hsrc (by simp only [List.size_toArray, pairs_len]; omega) (pairs_one ps)
    have e3 : ((qs.flatMap pairCells).toArray.toList.take 0 ++ ps.flatMap pairCells ++ (qs.flatMap pairCells).toArray.toList.drop (0 + (ps.flatMap pairCells).length)).toArray = ((ps ++ qs.drop sLen).flatMap pairCells).toArray := by
      rw [Nat.zero_add, List.take_zero, List.nil_append, pairs_len, hl, drop_pairs, ← List.flatMap_append]
    rw [e3] at hrun
    have hlen : (ps ++ qs.drop sLen).length = dLen := by simp; omega
    have h' := h (w.setRow g ((ps ++ qs.drop sLen).flatMap pairCells).toArray) ⟨ps ++ qs.drop sLen, rfl, hlen, setRow_heap w g _ _ t _ hA⟩ ((Fr.refl _ _).setRow (S := fun k => k = g) rfl _)
    generalize (ps ++ qs.drop sLen) = fs at hrun h'
    unfold Oper.wp
    simp only [execOp, ho, resolve, invoke, builtin, hd, hs]
    simp [hd, hs, hrun, Result.andThen]
    exact hK _ _ h'
/-- All of it is written over: the run itself. -/
theorem copy2_run {P : Program} (w : World) (dT sT ty elem : TypeId) (hu : P.underlying dT = some (.slice elem)) (hsz : (P.info? elem).map (·.size) = some 2) (g n dCap sCap : Nat) (hn : 0 < n) (sp : Option Addr)
    (qs : List (Int × Int)) (t : TypeId) (hq : qs.length = n) (hA : At w g (qs.flatMap pairCells) t) (ps : List (Int × Int)) (hps : Spans w sp n ps) :
    ∃ w', (Builtin.copy_ #[dT, sT] ty #[.slice (some ⟨g, 0, none⟩) n dCap, .slice sp n sCap]).run P w = .ok (goInt n) w' ∧ At w' g (ps.flatMap pairCells) t ∧ Fr (fun k => k = g) w w' := by
  obtain ⟨hl, hpos⟩ := hps
  rw [span_pair] at hpos
  obtain ⟨ad, rfl, hsrc⟩ := hpos hn
  have hrun := run_copy2 (P := P) w dT sT ty elem g 0 n dCap ad n sCap (qs.flatMap pairCells).toArray t (ps.flatMap pairCells) hu hsz hA n (Nat.min_self n).symm (by rw [pairs_len, hl]) hsrc (by simp only [List.size_toArray, pairs_len]; omega) (pairs_one ps)
  have e3 : ((qs.flatMap pairCells).toArray.toList.take 0 ++ ps.flatMap pairCells ++ (qs.flatMap pairCells).toArray.toList.drop (0 + (ps.flatMap pairCells).length)).toArray = (ps.flatMap pairCells).toArray := by
    rw [Nat.zero_add, List.take_zero, List.nil_append, List.drop_eq_nil_of_le (by rw [pairs_len]; simp only [pairs_len]; omega), List.append_nil]
  rw [e3] at hrun
  exact ⟨_, hrun, setRow_heap w g _ _ t _ hA, (Fr.refl _ _).setRow (S := fun k => k = g) rfl _⟩
/-- What it holds then is not asked. -/
theorem wpList_copy2 {P : Program} {w : World} {ops : Array Oper} {rest : List Oper} {o : Oper} {a : Go.Act} {Q : Exit → Go.Act → World → Prop} (hgd : o.guard = none) (d s : Operand) (dT sT : TypeId)
    (ho : o.op = .call { callee := .builtin .copy, args := #[d, s], argTypes := #[dT, sT] }) (elem : TypeId) (hu : P.underlying dT = some (.slice elem)) (hsz : (P.info? elem).map (·.size) = some 2)
    (sp : Option Addr) (g dLen dCap sLen sCap : Nat) (hd : a.eval d = .slice (some ⟨g, 0, none⟩) dLen dCap) (hs : a.eval s = .slice sp sLen sCap)
    (qs : List (Int × Int)) (t : TypeId) (hq : qs.length = dLen) (hA : At w g (qs.flatMap pairCells) t) (ps : List (Int × Int)) (hps : Spans w sp sLen ps) (hle : sLen ≤ dLen)
    (h : ∀ (fs : List (Int × Int)) w', Hid (fs.length = dLen ∧ At w' g (fs.flatMap pairCells) t) → Hid (Fr (fun k => k = g) w w') → wpList P ops Q rest (a.put o.dst (goInt sLen)) w') :
    wpList P ops Q (o :: rest) a w :=
  wpList_copy2e hgd d s dT sT ho elem hu hsz sp g dLen dCap sLen sCap hd hs qs t hq hA ps hps hle (fun w' h1 h2 => let ⟨fs, _, h3⟩ := h1.out; h fs w' h3 h2)
/-- A row of zeros. -/
theorem made_pairs (n : Nat) : Go.madeCells #[.int .i64 0, .int .i64 0] (n * 2) = ((List.replicate n ((0 : Int), (0 : Int))).flatMap pairCells).toArray := by
  apply Array.ext'
  apply List.ext_getElem?
  intro j
  have hlen : ((List.replicate n ((0 : Int), (0 : Int))).flatMap pairCells).length = n * 2 := by rw [pairs_len]; simp
  by_cases hj : j < n * 2
  · have h1 : (Go.madeCells #[Value.int .i64 0, .int .i64 0] (n * 2)).toList[j]? = some (.int .i64 0) := by
      simp [Go.madeCells, hj]
      rcases (show j % 2 = 0 ∨ j % 2 = 1 by omega) with h | h <;> simp [h]
    rw [h1]
    have hm : j < ((List.replicate n ((0 : Int), (0 : Int))).flatMap pairCells).length := by omega
    rw [List.getElem?_eq_getElem hm]
    have : ((List.replicate n ((0 : Int), (0 : Int))).flatMap pairCells)[j] ∈ (List.replicate n ((0 : Int), (0 : Int))).flatMap pairCells := List.getElem_mem _
    simp only [List.mem_flatMap, pairCells] at this
    obtain ⟨p, hp, hx⟩ := this
    have := List.eq_of_mem_replicate hp
    subst this
    simp at hx
    exact congrArg some hx.symm
  · rw [List.getElem?_eq_none (by simp [Go.madeCells]; omega), List.getElem?_eq_none (by simp only []; omega)]

/-- A region that draws its order: it reads, and at last calls once. -/
theorem wp_region_last {Pg : Program} {id : Nat} {Q : Exit → Go.Act → World → Prop} {a : Go.Act} {w : World} {l : List Oper} (eff : Nat) (S : Nat → Prop) (C : World → Prop) (hC : ∀ w', C w' → Fr S w w')
    (hm : Pg.follows .mixedOrders = true) (hB : Region.lexB .any l.toArray = true) (hch : chainB .any l.toArray [eff] = true) (hlow : lowB .any l.toArray = true) (hin : eff < l.length)
    (h : ∀ (U : Type) (W : U → World), Nonempty U → (∀ u, Fr S w (W u)) → wpMix Pg l.toArray (fun w' => ∃ u, w' = W u) (fun k w' => (k = 0 → Fr (fun _ => False) w w') ∧ (k = 1 → C w')) [eff] (fun a' => ∀ w', C w' → Q .normal a' w') l 0 0 a) :
    (Code.region id l.toArray true).wp Pg Q a w := by
  refine wp_region_mixC [eff] (fun k w' => (k = 0 → Fr (fun _ => False) w w') ∧ (k = 1 → C w')) 0 rfl hm hB hch (by simp) hlow (by simpa using hin) ⟨fun _ => (Fr.refl _ _).drew, by simp⟩ ?_
  intro U W hU hW
  have := h U W hU (fun u => by
    obtain ⟨k, hk, h0, h1⟩ := hW u
    rcases (show k = 0 ∨ k = 1 by omega) with rfl | rfl
    · exact (h0 rfl).mono (fun _ _ h => h.elim)
    · exact hC _ (h1 rfl))
  simpa using this
end Go.Proofs.YtfccelbmacjifaaGreat

set_option linter.unusedSimpArgs false
namespace Go.Proofs.YtfccelbmacjifaaGreat
open Go.RowKit
theorem pairs_set {ps : List (Int × Int)} {i : Nat} (hi : i < ps.length) (a b : Int) : ((ps.flatMap pairCells).set (i * 2) (.int .i64 a)).set (i * 2 + 1) (.int .i64 b) = (ps.set i (a, b)).flatMap pairCells := by
  have hg : ps[i]? = some ps[i] := List.getElem?_eq_getElem hi
  have h1 := tab_set pairCells 2 (fun _ => rfl) ps i 0 ps[i] (a, ps[i].2) (.int .i64 a) hg (by omega) rfl
  rw [Nat.add_zero] at h1
  rw [h1]
  have hg2 : (ps.set i (a, ps[i].2))[i]? = some (a, ps[i].2) := by simp [hi]
  have h2 := tab_set pairCells 2 (fun _ => rfl) (ps.set i (a, ps[i].2)) i 1 (a, ps[i].2) (a, b) (.int .i64 b) hg2 (by omega) rfl
  rw [h2, List.set_set]
theorem At.setPair {w : World} {g : Nat} {ps : List (Int × Int)} {t : TypeId} (h : At w g (ps.flatMap pairCells) t) {i : Nat} (hi : i < ps.length) (a b : Int) : At ((w.setCell ⟨g, i * 2, none⟩ (.int .i64 a)).setCell ⟨g, i * 2 + 1, none⟩ (.int .i64 b)) g ((ps.set i (a, b)).flatMap pairCells) t := by
  have := (h.set (i * 2) (.int .i64 a)).set (i * 2 + 1) (.int .i64 b)
  rwa [pairs_set hi] at this
theorem At.pairCell {w : World} {g : Nat} {ps : List (Int × Int)} {t : TypeId} (h : At w g (ps.flatMap pairCells) t) {i : Nat} (hi : i < ps.length) : w.cell? ⟨g, i * 2, none⟩ = some (.int .i64 ps[i].1) ∧ w.cell? ⟨g, i * 2 + 1, none⟩ = some (.int .i64 ps[i].2) := by
  obtain ⟨h1, h2⟩ := pairs_get (List.getElem?_eq_getElem hi)
  exact ⟨by rw [h.cell]; exact h1, by rw [h.cell]; exact h2⟩
theorem At.pairSome {w : World} {g : Nat} {ps : List (Int × Int)} {t : TypeId} (h : At w g (ps.flatMap pairCells) t) {i : Nat} (hi : i < ps.length) : ∃ a b : Int, w.cell? ⟨g, i * 2, none⟩ = some (.int .i64 a) ∧ w.cell? ⟨g, i * 2 + 1, none⟩ = some (.int .i64 b) := ⟨_, _, h.pairCell hi⟩
theorem At.spans {w : World} {g : Nat} {ps : List (Int × Int)} {t : TypeId} (h : At w g (ps.flatMap pairCells) t) {n : Nat} (hn : ps.length = n) : Spans w (some ⟨g, 0, none⟩) n ps :=
  ⟨hn, fun _ => ⟨_, rfl, fun j v hj => by rw [Addr.add_lit, Nat.zero_add, h.cell]; exact hj⟩⟩
theorem Spans.calm {w w' : World} {sa : Option Addr} {n : Nat} {ps : List (Int × Int)} (h : Spans w sa n ps) (hf : Fr (fun _ => False) w w') : Spans w' sa n ps :=
  ⟨h.1, fun h0 => let ⟨ad, e, hc⟩ := h.2 h0; ⟨ad, e, fun j v hj => hf.calmCell (hc j v hj)⟩⟩
theorem At.asPairs {w : World} {g : Nat} {ps : List (Int × Int)} {t : TypeId} (h : At w g (ps.flatMap pairCells) t) : ∀ (i : Nat) p, ps[i]? = some p → ∃ g', some (⟨g, 0, none⟩ : Addr) = some ⟨g', 0, none⟩ ∧ w.cell? ⟨g', i * 2, none⟩ = some (.int .i64 p.1) ∧ w.cell? ⟨g', i * 2 + 1, none⟩ = some (.int .i64 p.2) := by
  intro i p hp
  obtain ⟨h1, h2⟩ := pairs_get hp
  exact ⟨g, rfl, by rw [h.cell]; exact h1, by rw [h.cell]; exact h2⟩
theorem Row.ofPairs (own : Own) (z : Nat) {w : World} (tag : Tag) {g : Nat} {ps : List (Int × Int)} {t : TypeId} (h : At w g (ps.flatMap pairCells) t) (hn : ps.length ≤ maxLen) (ht : own g = ⟨z, tag⟩) : Row own z w tag t 2 (.slice (some ⟨g, 0, none⟩) ps.length ps.length) ps.length (ps.flatMap pairCells) :=
  Row.lit own z tag h (by rw [pairs_len]) hn ht
def pairRow (ps : List (Int × Int)) : Array Value := (ps.flatMap pairCells).toArray
theorem At.newPairs (w : World) (ps : List (Int × Int)) (t : TypeId) : At (w.alloc (.cells (pairRow ps) t)) w.heap.size (ps.flatMap pairCells) t := At.new w _ _
theorem At.newPairsAt {w : World} {n : Nat} (hn : w.heap.size = n) (ps : List (Int × Int)) (t : TypeId) : At (w.alloc (.cells (pairRow ps) t)) n (ps.flatMap pairCells) t := hn ▸ At.newPairs w ps t
theorem Tryz.infoSpan : (Tryz.prog.info? 138).map (fun i => (i.zero, i.size, i.bytes)) = some (some (.agg #[.int .i64 0, .int .i64 0]), 2, 16) := by kernel_rfl
theorem Tryz.sizeSpan : (Tryz.prog.info? 138).map (·.size) = some 2 := by kernel_rfl
theorem Tryz.infoGiven : (Tryz.prog.info? 66).map (fun i => (i.zero, i.size, i.bytes)) = some (some (.agg #[.slice none 0 0, .slice none 0 0]), 2, 48) := by kernel_rfl
theorem make_pairs (sn : Nat) (h : sn ≤ 2 ^ 20) : ∃ zs : List (Int × Int), zs.length = sn + 2 ∧ ∀ u : World, (Instr.makeSlice 32 (.int .i64 ((sn : Int) + 2)) (.int .i64 ((sn : Int) + 2))).run Tryz.prog u =
    .ok (.slice (some ⟨u.heap.size, 0, none⟩) (sn + 2) (sn + 2)) (u.alloc (.cells (pairRow zs) 138)) := by
  obtain ⟨i0, hi, hz0, hz1, hz2⟩ := info_parts Tryz.infoSpan
  refine ⟨List.replicate (sn + 2) (0, 0), by simp, fun u => ?_⟩
  have hr := run_make (P := Tryz.prog) u 32 138 i0 (.agg #[.int .i64 0, .int .i64 0]) Tryz.underlying32 hi hz0 .i64 .i64 ((sn : Int) + 2) ((sn : Int) + 2) (by omega) (Int.le_refl _) (by rw [hz2]; omega) (by omega)
  have e : ((sn : Int) + 2).toNat = sn + 2 := by omega
  rw [e, hz1] at hr
  rw [hr]
  have hm := made_pairs (sn + 2)
  simp only [Value.cells] at hm ⊢
  rw [hm]
  rfl

theorem begins_own {own : Own} {w w2 : World} {g1 g2 : Nat} (h1 : w.heap.size < g1) (h2 : g1 < g2) (h3 : g2 < w2.heap.size) : ∃ own1 : Own, Ext own own1 w ∧ own1 g1 = ⟨2, .oth 2⟩ ∧ own1 g2 = ⟨2, .oth 2⟩ ∧ own1 w.heap.size = ⟨3, .store⟩ ∧ own1 w2.heap.size = ⟨3, .store⟩ := by
  refine ⟨(((own.put w.heap.size 3 .store).put g1 2 (.oth 2)).put g2 2 (.oth 2)).put w2.heap.size 3 .store, ?_, ?_, ?_, ?_, ?_⟩
  · intro j hj
    rw [Own.put_ne _ _ _ (by omega), Own.put_ne _ _ _ (by omega), Own.put_ne _ _ _ (by omega), Own.put_ne _ _ _ (by omega)]
  · rw [Own.put_ne _ _ _ (by omega), Own.put_ne _ _ _ (by omega), Own.put_same]
  · rw [Own.put_ne _ _ _ (by omega), Own.put_same]
  · rw [Own.put_ne _ _ _ (by omega), Own.put_ne _ _ _ (by omega), Own.put_ne _ _ _ (by omega), Own.put_same]
  · rw [Own.put_same]

section
variable {J : Own → World → Nat → Nat → Nat → Prop} {ok : Int → Prop} {w0 : Root} {w w' : World} {wb x y N G : Nat} {k t n e l : Int}
/-- A list that was handed in is noted. -/
theorem law_given (S : Sides J ok) {own own1 own2 : Own} {gv : Value} {gs : List Giv} {w3 w7 w8 w9 : World} {g1 g2 g cap sn : Nat} {hs : List (Int × Int)} {ob : Obj} (hC : CAt own w wb x y k t n e l gv gs) (hG : gs.length ≤ G) (ho : ∀ j, w0.D j → j < w0.w.heap.size ∧ (own j).z = 3) (hF : Fr (fun j => ¬ w0.D j) w0.w w)
    (hE1 : Ext own own1 w) (p1 : own1 g1 = ⟨2, .oth 2⟩) (p2 : own1 g2 = ⟨2, .oth 2⟩) (q1 : w.heap.size ≤ g1 ∧ g1 < w3.heap.size) (q2 : w.heap.size ≤ g2 ∧ g2 < w3.heap.size) (_h3 : w.heap.size ≤ w3.heap.size) (hE2 : Ext own1 own2 w3) (hJ : J own2 w7 x y N)
    (hFw : Fr (fun k => (own k).z ≤ 1) w w7) (hl : hs.length = sn + 2) (hsn : sn ≤ 2 ^ 20) (hA1 : At w8 g1 (hs.flatMap pairCells) 138) (hA2 : At w8 g2 (hs.flatMap pairCells) 138) (hF8 : Fr (fun k => k = g1 ∨ k = g2) w7 w8)
    (hown : w9.ownsRow 0 66 2 (.slice (some ⟨g, 0, none⟩) (gs.length + 1) cap) (gs.length + 1) (gs.flatMap givCells ++ [.slice (some ⟨g1, 0, none⟩) (sn + 2) (sn + 2), .slice (some ⟨g2, 0, none⟩) (sn + 2) (sn + 2)])) (hgr : (w8.alloc ob).grownBy w9 gv.ownBlock) (hge : gv.ownBlock = some g ∨ (w8.alloc ob).heap.size ≤ g) :
    LawAt J w0 (w9.setCell ⟨wb, 9, none⟩ (.slice (some ⟨g, 0, none⟩) (gs.length + 1) cap)) wb k t n e l N (G + 1) := by
  have hgvb : ∀ b, gv.ownBlock = some b → own b = ⟨2, .oth 1⟩ ∧ b < w.heap.size := fun b hb => ⟨hC.row.tg b hb, ownsRow_lt hC.row.row hb⟩
  have hwl := hC.at_.lt
  have hs7 := hFw.size
  have hs8 := hF8.size
  have hsa : (w8.alloc ob).heap.size = w8.heap.size + 1 := by simp
  have hwg : gv.ownBlock ≠ some wb := by
    intro h; have := (hgvb wb h).1; rw [hC.tg] at this; simp at this
  have e12 : ∀ j, j < w.heap.size → own2 j = own j := fun j hj => (hE2 j (by omega)).trans (hE1 j hj)
  -- the frame behind w7
  have hEnd : Fr (fun k => k = g1 ∨ k = g2 ∨ gv.ownBlock = some k ∨ k = wb) w7 (w9.setCell ⟨wb, 9, none⟩ (.slice (some ⟨g, 0, none⟩) (gs.length + 1) cap)) := by
    refine Fr.setCell (Fr.grown (row := gv.ownBlock) ((hF8.mono (fun j _ h => ?_)).alloc ob) hgr (fun j hj => ?_)) (.inl (.inr (.inr (.inr rfl)))) _
    · rcases h with h | h
      · exact .inl h
      · exact .inr (.inl h)
    · exact .inl (.inr (.inr (.inl hj)))
  have hAll : Fr (fun k => (own k).z ≤ 1 ∨ gv.ownBlock = some k ∨ k = wb) w (w9.setCell ⟨wb, 9, none⟩ (.slice (some ⟨g, 0, none⟩) (gs.length + 1) cap)) := by
    refine Fr.transNew (hFw.mono (fun j _ h => .inl h)) hEnd ?_
    rintro j (rfl | rfl | h | h)
    · exact .inr q1.1
    · exact .inr q2.1
    · exact .inl (.inr (.inl h))
    · exact .inl (.inr (.inr h))
  have hgo : own2 g = ⟨2, .oth 1⟩ ∨ w7.heap.size ≤ g := by
    rcases hge with h | h
    · left; rw [e12 g (hgvb g h).2]; exact (hgvb g h).1
    · right; omega
  have hE3 : Ext own2 (own2.put g 2 (.oth 1)) w7 := Ext.put' (Ext.refl _ _) hgo
  have hEw : Ext own (own2.put g 2 (.oth 1)) w := fun j hj => (hE3 j (by omega)).trans (e12 j hj)
  have ne1 : g1 ≠ g2 ∨ True := .inr trivial
  have hA9 : ∀ b c T, At w8 b c T → gv.ownBlock ≠ some b → b ≠ wb → At (w9.setCell ⟨wb, 9, none⟩ (.slice (some ⟨g, 0, none⟩) (gs.length + 1) cap)) b c T := by
    intro b c T hb hn hw
    refine At.setOther ?_ _ hw _
    have h1 : Fr (fun j => gv.ownBlock = some j) (w8.alloc ob) w9 := Fr.grown (Fr.refl _ _) hgr (fun j hj => .inl hj)
    exact h1.at (hb.alloc ob) hn
  have hW8 : At w8 wb (wcells x y k t n e l gv) 51 := hF8.at (hFw.at hC.at_ (by rw [hC.tg]; decide)) (by rintro (h | h) <;> omega)
  have hW9 : At w9 wb (wcells x y k t n e l gv) 51 := by
    have h1 : Fr (fun j => gv.ownBlock = some j) (w8.alloc ob) w9 := Fr.grown (Fr.refl _ _) hgr (fun j hj => .inl hj)
    exact h1.at (hW8.alloc ob) hwg
  have hbg1 : gv.ownBlock ≠ some g1 := fun h => by have := (hgvb _ h).2; omega
  have hbg2 : gv.ownBlock ≠ some g2 := fun h => by have := (hgvb _ h).2; omega
  have og1 : own2.put g 2 (.oth 1) g1 = ⟨2, .oth 2⟩ := by
    rw [Own.put_ne, hE2 g1 q1.2]; exact p1
    rintro rfl
    rcases hge with h | h
    · exact hbg1 h
    · have := hA1.lt; omega
  have og2 : own2.put g 2 (.oth 1) g2 = ⟨2, .oth 2⟩ := by
    rw [Own.put_ne, hE2 g2 q2.2]; exact p2
    rintro rfl
    rcases hge with h | h
    · exact hbg2 h
    · have := hA2.lt; omega
  have hmax : hs.length ≤ maxLen := by unfold maxLen; omega
  refine ⟨own2.put g 2 (.oth 1), x, y, .slice (some ⟨g, 0, none⟩) (gs.length + 1) cap, gs ++ [⟨.slice (some ⟨g1, 0, none⟩) (sn + 2) (sn + 2), .slice (some ⟨g2, 0, none⟩) (sn + 2) (sn + 2), hs⟩], S.fr hJ hEnd hE3 ?_, ⟨hW9.set 9 _, ?_, ?_, ?_, ?_⟩, by simp; omega, ?_, hF.keepOld hAll ho ?_⟩
  · rintro j hj (rfl | rfl | h | h)
    · rw [hE2 _ q1.2, p1]; decide
    · rw [hE2 _ q2.2, p2]; decide
    · rw [e12 j (hgvb j h).2, (hgvb j h).1]; decide
    · rw [h, e12 wb hwl, hC.tg]; decide
  · rw [hEw wb hwl]; exact hC.tg
  · have hne := hW9.ne_row hown (by decide)
    refine ⟨?_, ?_⟩
    · have := ownsRow_setOther hown (a := ⟨wb, 9, none⟩) hne (.slice (some ⟨g, 0, none⟩) (gs.length + 1) cap)
      rw [List.flatMap_append, List.length_append]
      exact this
    · intro j hj
      simp [Value.ownBlock] at hj
      subst hj
      exact Own.put_same _ _ _ _
  · intro i q hq
    by_cases hi : i < gs.length
    · rw [List.getElem?_append_left hi] at hq
      have hS : ∀ j, own j = ⟨2, .oth 2⟩ → ¬ ((own j).z ≤ 1 ∨ gv.ownBlock = some j ∨ j = wb) := by
        rintro j hj (h | h | h)
        · rw [hj] at h; simp at h
        · rw [(hgvb j h).1] at hj; simp at hj
        · rw [h, hC.tg] at hj; simp at hj
      exact ⟨(hC.lst i q hq).1.fr hAll hEw hS, (hC.lst i q hq).2.fr hAll hEw hS⟩
    · rw [List.getElem?_append_right (by omega)] at hq
      obtain rfl : q = ⟨.slice (some ⟨g1, 0, none⟩) (sn + 2) (sn + 2), .slice (some ⟨g2, 0, none⟩) (sn + 2) (sn + 2), hs⟩ := by
        cases hz : i - gs.length with
        | zero => rw [hz] at hq; simpa using hq.symm
        | succ z => rw [hz] at hq; simp at hq
      refine ⟨?_, ?_⟩
      · have := Row.ofPairs (own2.put g 2 (.oth 1)) 2 (.oth 2) (hA9 g1 _ _ hA1 hbg1 (by omega)) hmax og1
        rw [hl] at this ⊢
        exact this
      · have := Row.ofPairs (own2.put g 2 (.oth 1)) 2 (.oth 2) (hA9 g2 _ _ hA2 hbg2 (by omega)) hmax og2
        rw [hl] at this ⊢
        exact this
  · intro q hq
    rcases List.mem_append.1 hq with h | h
    · exact hC.sz q h
    · simp at h; subst h; show hs.length ≤ _; omega
  · intro j hj
    rw [hEw j (Nat.lt_of_lt_of_le (ho j hj).1 hF.size)]; exact ho j hj
  · rintro j hj hd (h | h | h)
    · omega
    · rw [(hgvb j h).1]; decide
    · rw [h, hC.tg]; decide
end
end Go.Proofs.YtfccelbmacjifaaGreat

