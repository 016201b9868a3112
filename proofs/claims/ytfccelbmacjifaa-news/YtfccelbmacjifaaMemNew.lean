import Derived.Test.YtfccelbmacjifaaMem2
import Derived.Test.YtfccelbmacjifaaMemRoom
namespace Go.Proofs.Ytfccelbmacjifaa
open Go.RowKit

theorem Try.infoNode : (Try.prog.info? 107).map (fun i => (i.zero, i.size, i.bytes)) = some (some (.agg PNode.zero.cells.toArray), 10, 72) := by kernel_rfl
theorem Try.infoEntry : (Try.prog.info? 109).map (fun i => (i.zero, i.size, i.bytes)) = some (some (.agg PEntry.zero.cells.toArray), 6, 40) := by kernel_rfl

def anchorNode : PNode := { PNode.zero with used := true, holder := -1 }
def endNode : PNode := { PNode.zero with key := 1099511627777, used := true, holder := -1 }
def freshNodes (k : Nat) : List PNode := anchorNode :: endNode :: List.replicate k PNode.zero
/-- A new memory. -/
def freshMem (nn en : Nat) : PMem := ((⟨freshNodes nn, List.replicate en PEntry.zero⟩ : PMem).addLink 0 1).stampNew 0 0
theorem freshNodes_succ (k : Nat) : (freshNodes (k + 1)).flatMap PNode.cells = (freshNodes k).flatMap PNode.cells ++ PNode.zero.cells := by
  simp only [freshNodes, List.replicate_succ', List.flatMap_cons, List.flatMap_append, List.append_assoc, List.flatMap_nil, List.append_nil]
theorem freshEnts_succ (k : Nat) : (List.replicate (k + 1) PEntry.zero).flatMap PEntry.cells = (List.replicate k PEntry.zero).flatMap PEntry.cells ++ PEntry.zero.cells := by
  simp only [List.replicate_succ', List.flatMap_cons, List.flatMap_append, List.flatMap_nil, List.append_nil]

/-- While the memory grows: block m holds both lists, of blocks from B on. -/
structure MemGrows (B : Nat) (w wr : World) (m : Nat) (nv ev : Value) (a b : Nat) (xs ys : List Value) : Prop where
  hd : At wr m [nv, ev] 105
  nodes : wr.ownsRow B 107 10 nv a xs
  ents : wr.ownsRow B 109 6 ev b ys
  fr : Fr (fun _ => False) w wr
  base : w.heap.size = B
  hm : B ≤ m

section
variable {B : Nat} {w wr w1 : World} {m : Nat} {nv ev : Value} {a b : Nat} {xs ys : List Value}
theorem MemGrows.pushN (h : MemGrows B w wr m nv ev a b xs ys) {g cap : Nat} {c x : List Value} {e : TypeId} (ho : w1.ownsRow B 107 10 (.slice (some ⟨g, 0, none⟩) (a + 1) cap) (a + 1) (xs ++ x))
    (hg : (wr.alloc (.cells c.toArray e)).grownBy w1 nv.ownBlock) : At w1 m [nv, ev] 105 ∧
    MemGrows B w (w1.setCell ⟨m, 0, none⟩ (.slice (some ⟨g, 0, none⟩) (a + 1) cap)) m (.slice (some ⟨g, 0, none⟩) (a + 1) cap) ev (a + 1) b (xs ++ x) ys := by
  have hA : At w1 m [nv, ev] 105 := (h.hd.alloc _).grown hg (h.hd.ne_row (ownsRow_base h.nodes) (by decide))
  have he : w1.ownsRow B 109 6 ev b ys := (h.ents.alloc _).kept hg (ownsRow_ne (ownsRow_base h.ents) (ownsRow_base h.nodes) (by decide))
  refine ⟨hA, hA.set 0 _, ?_, ?_, ?_, h.base, h.hm⟩
  · exact ownsRow_setOtherB ho (hA.ne_row (ownsRow_base ho) (by decide)) _
  · exact ownsRow_setOtherB he (hA.ne_row (ownsRow_base he) (by decide)) _
  · refine Fr.setNew (by rw [h.base]; exact h.hm) ((h.fr.alloc _).grown hg ?_) _ _
    intro k hk; right; rw [h.base]; exact (h.nodes.lt k hk).1
theorem MemGrows.pushE (h : MemGrows B w wr m nv ev a b xs ys) {g cap : Nat} {c : List Value} {e : TypeId} (ho : w1.ownsRow B 109 6 (.slice (some ⟨g, 0, none⟩) (b + 1) cap) (b + 1) (ys ++ PEntry.zero.cells))
    (hg : (wr.alloc (.cells c.toArray e)).grownBy w1 ev.ownBlock) : At w1 m [nv, ev] 105 ∧
    MemGrows B w (w1.setCell ⟨m, 1, none⟩ (.slice (some ⟨g, 0, none⟩) (b + 1) cap)) m nv (.slice (some ⟨g, 0, none⟩) (b + 1) cap) a (b + 1) xs (ys ++ PEntry.zero.cells) := by
  have hA : At w1 m [nv, ev] 105 := (h.hd.alloc _).grown hg (h.hd.ne_row (ownsRow_base h.ents) (by decide))
  have he : w1.ownsRow B 107 10 nv a xs := (h.nodes.alloc _).kept hg (ownsRow_ne (ownsRow_base h.nodes) (ownsRow_base h.ents) (by decide))
  refine ⟨hA, hA.set 1 _, ?_, ?_, ?_, h.base, h.hm⟩
  · exact ownsRow_setOtherB he (hA.ne_row (ownsRow_base he) (by decide)) _
  · exact ownsRow_setOtherB ho (hA.ne_row (ownsRow_base ho) (by decide)) _
  · refine Fr.setNew (by rw [h.base]; exact h.hm) ((h.fr.alloc _).grown hg ?_) _ _
    intro k hk; right; rw [h.base]; exact (h.ents.lt k hk).1
end

set_option maxHeartbeats 4000000 in
set_option maxRecDepth 100000 in
theorem MNew_calls (w : World) (nn en : Nat) (hn : nn ≤ 64) (he : en ≤ 256) (he1 : 1 ≤ en) :
    Calls Try.prog 13 #[.int .i64 nn, .int .i64 en] w fun e w' => ∃ l : MLay, e = .returned (.pointer (some ⟨l.m, 0, none⟩)) ∧
      MAt w' l (freshMem nn en) ∧ Fr (fun _ => False) w w' ∧ w.heap.size ≤ l.m ∧ w.heap.size ≤ l.nb ∧ w.heap.size ≤ l.eb := by
  obtain ⟨iN, hiN, hzN, hsN, hbN⟩ := info_parts Try.infoNode
  obtain ⟨iE, hiE, hzE, hsE, hbE⟩ := info_parts Try.infoEntry
  have G0 : MemGrows w.heap.size w (w.alloc (.cells [.slice none 0 0, .slice none 0 0].toArray 105)) w.heap.size (.slice none 0 0) (.slice none 0 0) 0 0 [] [] :=
    ⟨At.newAt rfl _ _, World.ownsRow_nil _ _ _ _, World.ownsRow_nil _ _ _ _, (Fr.refl _ _).alloc _, rfl, Nat.le_refl _⟩
  have HG0 := (show Hid (MemGrows _ _ _ _ _ _ _ _ _ _) from G0)
  clear G0
  go_enter Try.func13, Try.ntmps13
  go_wp2_with (at_builtin; refine wpList_push _ rfl _ _ 102 rfl w.heap.size 107 iN (.agg PNode.zero.cells.toArray) 10 72 Try.underlying102 hiN hzN hsN hbN rfl (by decide) _ 0 [] rfl (World.ownsRow_nil _ _ _ _) (w.heap.size + 1) anchorNode.cells rfl rfl 107 (At.newAt (by simp) _ _) (PNode.cells_one _) (by decide) (by decide) (by simp; omega) ?_)
  intro g cap w1 hown hg hge
  have R := HG0.out.pushN (c := anchorNode.cells) (x := anchorNode.cells) (e := 107) (by simpa using hown) hg
  obtain ⟨hA, hG⟩ := R
  have hc := hA.cell
  have hz := hA.frozen
  have HG1 := (show Hid (MemGrows _ _ _ _ _ _ _ _ _ _) from hG)
  have hsz := HG1.out.fr.size
  rw [World.size_setCell] at hsz
  clear hA hown hg hG HG0
  go_wp2_with (at_builtin; refine wpList_push _ rfl _ _ 102 rfl w.heap.size 107 iN (.agg PNode.zero.cells.toArray) 10 72 Try.underlying102 hiN hzN hsN hbN rfl (by decide) _ (0 + 1) ([] ++ anchorNode.cells) rfl (ownsRow_alloc HG1.out.nodes _) w1.heap.size endNode.cells rfl rfl 107 (At.newAt (by simp) _ _) (PNode.cells_one _) (by decide) (by decide) (by simp; omega) ?_)
  intro g2 cap2 w2 hown hg hge2
  have R := HG1.out.pushN (c := endNode.cells) (x := endNode.cells) (e := 107) (by simpa using hown) hg
  obtain ⟨hA, hG⟩ := R
  have hc := hA.cell
  have hz := hA.frozen
  have HG2 : Hid (MemGrows w.heap.size w (w2.setCell ⟨w.heap.size, 0, none⟩ (.slice (some ⟨g2, 0, none⟩) (0 + 1 + 1) cap2)) w.heap.size (.slice (some ⟨g2, 0, none⟩) (0 + 2) cap2) (.slice none 0 0) (0 + 2) 0 ((freshNodes 0).flatMap PNode.cells) []) := by
    have e : (freshNodes 0).flatMap PNode.cells = ([] ++ anchorNode.cells) ++ endNode.cells := by simp [freshNodes]
    rw [e]; exact hG
  clear hA hown hg hG HG1 hsz
  go_wp2_with fail
  clear hc hz
  go_loopw [6] (fun i wr => ∃ k g cap : Nat, k ≤ nn ∧ i = .int .i64 k ∧ Hid (MemGrows w.heap.size w wr w.heap.size (.slice (some ⟨g, 0, none⟩) (k + 2) cap) (.slice none 0 0) (k + 2) 0 ((freshNodes k).flatMap PNode.cells) [])) (fun i _ => nn - (intOf i).toNat)
  case atStart => exact ⟨0, g2, cap2, Nat.zero_le _, rfl, HG2⟩
  case round =>
    obtain ⟨k, g, cap, hk, rfl, HG⟩ := hrel
    have hc := HG.out.hd.cell
    have hz := HG.out.hd.frozen
    have hsz := HG.out.fr.size
    have hlt := HG.out.hd.lt
    by_cases hkn : k < nn
    · go_wp2_with (at_builtin; refine wpList_push _ rfl _ _ 102 rfl w.heap.size 107 iN (.agg PNode.zero.cells.toArray) 10 72 Try.underlying102 hiN hzN hsN hbN rfl (by decide) _ (k + 2) _ rfl (ownsRow_alloc HG.out.nodes _) wr.heap.size PNode.zero.cells rfl rfl 107 (At.newAt (by simp) _ _) (PNode.cells_one _) (by unfold maxLen; omega) (by omega) (by simp; omega) ?_)
      intro g' cap' w' hown hg hge'
      have R := HG.out.pushN (c := PNode.zero.cells) (x := PNode.zero.cells) (e := 107) hown hg
      obtain ⟨hA, hG⟩ := R
      have hc := hA.cell
      have hz := hA.frozen
      rw [← freshNodes_succ, show k + 2 + 1 = k + 1 + 2 by omega] at hG
      have HG' := (show Hid (MemGrows _ _ _ _ _ _ _ _ _ _) from hG)
      clear hA hown hg hG HG hsz hlt
      go_wp2
      go_roundw
      case rel => exact ⟨k + 1, g', cap', by omega, by go_num, HG'⟩
      case measure => simp [intOf]; omega
    · have hkn' : k = nn := by omega
      subst hkn'
      clear hlt hsz
      go_wp2_with fail
      clear hc hz
      go_loopw [7] (fun i wr => ∃ (j : Nat) (ev : Value), j ≤ en ∧ i = .int .i64 j ∧ Hid (MemGrows w.heap.size w wr w.heap.size (.slice (some ⟨g, 0, none⟩) (k + 2) cap) ev (k + 2) j ((freshNodes k).flatMap PNode.cells) ((List.replicate j PEntry.zero).flatMap PEntry.cells))) (fun i _ => en - (intOf i).toNat)
      case atStart => exact ⟨0, _, Nat.zero_le _, rfl, HG⟩
      case round =>
        obtain ⟨j, ev, hj, rfl, HG⟩ := hrel
        have hc := HG.out.hd.cell
        have hz := HG.out.hd.frozen
        have hsz := HG.out.fr.size
        have hlt := HG.out.hd.lt
        by_cases hjn : j < en
        · go_wp2_with (at_builtin; refine wpList_push _ rfl _ _ 103 rfl w.heap.size 109 iE (.agg PEntry.zero.cells.toArray) 6 40 Try.underlying103 hiE hzE hsE hbE rfl (by decide) _ j _ rfl (ownsRow_alloc HG.out.ents _) wr.heap.size PEntry.zero.cells rfl rfl 109 (At.newAt (by simp) _ _) (PEntry.cells_one _) (by unfold maxLen; omega) (by omega) (by simp; omega) ?_)
          intro g' cap' w' hown hg hge'
          have R := HG.out.pushE (c := PEntry.zero.cells) (e := 109) hown hg
          obtain ⟨hA, hG⟩ := R
          have hc := hA.cell
          have hz := hA.frozen
          rw [← freshEnts_succ] at hG
          have HG' := (show Hid (MemGrows _ _ _ _ _ _ _ _ _ _) from hG)
          clear hA hown hg hG HG hsz hlt
          go_wp2
          go_roundw
          case rel => exact ⟨j + 1, _, by omega, by go_num, HG'⟩
          case measure => simp [intOf]; omega
        · have hjn' : j = en := by omega
          subst hjn'
          obtain ⟨eb, ecap, rfl, _⟩ := ownsRow_shape (ownsRow_base HG.out.ents) (by omega)
          have hM : MemAt wr w.heap.size g cap eb ecap (freshNodes k) (List.replicate j PEntry.zero) := by
            have l1 : (freshNodes k).length = k + 2 := by simp [freshNodes]
            refine ⟨?_, ?_, ?_, by omega, by simpa using he⟩
            · rw [l1, List.length_replicate]; exact HG.out.hd
            · rw [l1]; exact ownsRow_base HG.out.nodes
            · rw [List.length_replicate]; exact ownsRow_base HG.out.ents
          have hfr := HG.out.fr
          have hgb := (HG.out.nodes.lt g rfl).1
          have heb := (HG.out.ents.lt eb rfl).1
          have HM : Hid (MemAt wr w.heap.size g cap eb ecap (freshNodes k) (List.replicate j PEntry.zero)) := hM
          have HF : Hid (Fr (fun _ => False) w wr) := hfr
          clear hM hfr HG hc hz hsz hlt
          go_wp2_with fail
          refine (AddLink_calls (l := ⟨w.heap.size, g, cap, eb, ecap⟩) (M := ⟨freshNodes k, List.replicate j PEntry.zero⟩) HM.out 0 1).mono ?_
          rintro e w5 ⟨rfl, hM5, hF5⟩
          have HM5 := (show Hid (MAt w5 ⟨w.heap.size, g, cap, eb, ecap⟩ _) from hM5)
          have HF5 := (show Hid (MFr _ wr w5) from hF5)
          clear hM5 hF5
          go_wp2_with fail
          refine (StampNew_calls HM5.out 0 0).mono ?_
          rintro e w6 ⟨rfl, hM6, hF6⟩
          have HM6 := (show Hid (MAt w6 ⟨w.heap.size, g, cap, eb, ecap⟩ _) from hM6)
          have HF6 := (show Hid (MFr _ w5 w6) from hF6)
          clear hM6 hF6
          go_wp2
          go_ret
          refine ⟨⟨w.heap.size, g, cap, eb, ecap⟩, rfl, HM6.out, ?_, Nat.le_refl _, hgb, heb⟩
          exact Fr.transNew (Fr.transNew HF.out HF5.out (by rintro k (rfl | rfl); exact .inr hgb; exact .inr heb)) HF6.out (by rintro k (rfl | rfl); exact .inr hgb; exact .inr heb)
/-- What a new memory holds. -/
theorem freshMem_eq (nn en : Nat) : freshMem nn (en + 1) = ⟨linked false 1 anchorNode :: endNode :: List.replicate nn PNode.zero, (⟨true, false, 0, false, 1, 0⟩ : PEntry) :: List.replicate en PEntry.zero⟩ := by
  have h1 : (⟨freshNodes nn, List.replicate (en + 1) PEntry.zero⟩ : PMem).hasNode 0 = true := isIn_true (by simp [freshNodes]; omega)
  have h2 : (⟨freshNodes nn, List.replicate (en + 1) PEntry.zero⟩ : PMem).freeEntry = 0 := by simp [PMem.freeEntry, find, List.replicate_succ, PEntry.zero]
  have h3 : (⟨freshNodes nn, List.replicate (en + 1) PEntry.zero⟩ : PMem).node 0 = anchorNode := by unfold PMem.node; rw [h1]; rfl
  have e1 : (⟨freshNodes nn, List.replicate (en + 1) PEntry.zero⟩ : PMem).modN 0 (linked false 1) = ⟨linked false 1 anchorNode :: endNode :: List.replicate nn PNode.zero, List.replicate (en + 1) PEntry.zero⟩ := by
    unfold PMem.modN; rw [h1]; simp [freshNodes]
  have e2 : (⟨freshNodes nn, List.replicate (en + 1) PEntry.zero⟩ : PMem).addLink 0 1 = (⟨linked false 1 anchorNode :: endNode :: List.replicate nn PNode.zero, List.replicate (en + 1) PEntry.zero⟩ : PMem).pend 0 false 1 := by
    unfold PMem.addLink; rw [h1, h2, h3, e1]; simp [anchorNode, PNode.zero]
  have h4 : (⟨linked false 1 anchorNode :: endNode :: List.replicate nn PNode.zero, List.replicate (en + 1) PEntry.zero⟩ : PMem).hasNode 0 = true := isIn_true (by simp; omega)
  have h5 : (⟨linked false 1 anchorNode :: endNode :: List.replicate nn PNode.zero, List.replicate (en + 1) PEntry.zero⟩ : PMem).freeEntry = 0 := by simp [PMem.freeEntry, find, List.replicate_succ, PEntry.zero]
  have h6 : (⟨linked false 1 anchorNode :: endNode :: List.replicate nn PNode.zero, List.replicate (en + 1) PEntry.zero⟩ : PMem).hasLink 0 false = true := by
    unfold PMem.hasLink PMem.node; rw [h4]; rfl
  have h7 : (⟨linked false 1 anchorNode :: endNode :: List.replicate nn PNode.zero, List.replicate (en + 1) PEntry.zero⟩ : PMem).hasEntry 0 = true := isIn_true (by simp)
  have e3 : (⟨linked false 1 anchorNode :: endNode :: List.replicate nn PNode.zero, List.replicate (en + 1) PEntry.zero⟩ : PMem).pend 0 false 1 = ⟨linked false 1 anchorNode :: endNode :: List.replicate nn PNode.zero, (⟨true, true, 0, false, 1, 0⟩ : PEntry) :: List.replicate en PEntry.zero⟩ := by
    unfold PMem.pend; rw [h5, h6, h7]; simp [PMem.setE, List.replicate_succ]
  have h8 : ∀ e : PEntry, (⟨linked false 1 anchorNode :: endNode :: List.replicate nn PNode.zero, e :: List.replicate en PEntry.zero⟩ : PMem).hasEntry 0 = true := fun e => isIn_true (by simp)
  have h9 : (⟨linked false 1 anchorNode :: endNode :: List.replicate nn PNode.zero, (⟨true, true, 0, false, 1, 0⟩ : PEntry) :: List.replicate en PEntry.zero⟩ : PMem).pending 0 false = 0 := by
    simp [PMem.pending, find, isPd]
  have h10 : (⟨linked false 1 anchorNode :: endNode :: List.replicate nn PNode.zero, (⟨true, false, 0, false, 1, 0⟩ : PEntry) :: List.replicate en PEntry.zero⟩ : PMem).pending 0 true = -1 := by
    unfold PMem.pending
    apply find_miss
    intro j hj y hy
    have : y ∈ (⟨true, false, 0, false, 1, 0⟩ : PEntry) :: List.replicate en PEntry.zero := List.mem_of_getElem? hy
    simp at this
    rcases this with rfl | ⟨_, rfl⟩ <;> simp [isPd, PEntry.zero]
  unfold freshMem PMem.stampNew
  rw [e2, e3]
  have e4 : (⟨linked false 1 anchorNode :: endNode :: List.replicate nn PNode.zero, (⟨true, true, 0, false, 1, 0⟩ : PEntry) :: List.replicate en PEntry.zero⟩ : PMem).stamp 0 false 0 = ⟨linked false 1 anchorNode :: endNode :: List.replicate nn PNode.zero, (⟨true, false, 0, false, 1, 0⟩ : PEntry) :: List.replicate en PEntry.zero⟩ := by
    unfold PMem.stamp; rw [h9, h8]; simp [PMem.setE, PMem.ent]
  rw [e4]
  have h11 : ∀ M : PMem, M.hasEntry (-1) = false := fun M => isIn_false (by omega)
  unfold PMem.stamp; rw [h10, h11]; simp
theorem freshMem_room (nn en : Nat) : (freshMem nn (en + 1)).room = ((nn : Int), (en : Int)) := by
  rw [freshMem_eq]
  simp [PMem.room, count, linked, anchorNode, endNode, PNode.zero, PEntry.zero]
end Go.Proofs.Ytfccelbmacjifaa
