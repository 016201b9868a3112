import Derived.Test.YtfccelbmacjifaaGreatP11
import Derived.Test.YtfccelbmacjifaaGreatP12
namespace Go.Proofs.YtfccelbmacjifaaGreat
open Go.RowKit

theorem Tryz.infoNode : (Tryz.prog.info? 166).map (fun i => (i.zero, i.size, i.bytes)) = some (some (.agg PNode.zero.cells.toArray), 10, 72) := by kernel_rfl
theorem Tryz.infoEntry : (Tryz.prog.info? 168).map (fun i => (i.zero, i.size, i.bytes)) = some (some (.agg PEntry.zero.cells.toArray), 6, 40) := by kernel_rfl

def anchorNode : PNode := { PNode.zero with used := true, holder := -1 }
def endNode : PNode := { PNode.zero with key := 1099511627777, used := true, holder := -1 }
def freshNodes (k : Nat) : List PNode := anchorNode :: endNode :: List.replicate k PNode.zero
/-- A new memory. -/
def freshMem (nn en : Nat) : PMem := ((⟨freshNodes nn, List.replicate en PEntry.zero⟩ : PMem).addLink 0 1).stampNew 0 0
theorem freshNodes_succ (k : Nat) : (freshNodes (k + 1)).flatMap PNode.cells = (freshNodes k).flatMap PNode.cells ++ PNode.zero.cells := by
  simp only [freshNodes, List.replicate_succ', List.flatMap_cons, List.flatMap_append, List.append_assoc, List.flatMap_nil, List.append_nil]
theorem freshEnts_succ (k : Nat) : (List.replicate (k + 1) PEntry.zero).flatMap PEntry.cells = (List.replicate k PEntry.zero).flatMap PEntry.cells ++ PEntry.zero.cells := by
  simp only [List.replicate_succ', List.flatMap_cons, List.flatMap_append, List.flatMap_nil, List.append_nil]

/-- While the memory grows: block m holds both lists, of blocks from B on. -/
structure MemGrows (B : Nat) (w wr : World) (m : Nat) (nv ev : Value) (a b : Nat) (xs ys : List Value) : Prop where
  hd : At wr m [nv, ev] 164
  nodes : wr.ownsRow B 166 10 nv a xs
  ents : wr.ownsRow B 168 6 ev b ys
  fr : Fr (fun _ => False) w wr
  base : w.heap.size = B
  hm : B ≤ m

section
variable {B : Nat} {w wr w1 : World} {m : Nat} {nv ev : Value} {a b : Nat} {xs ys : List Value}
theorem MemGrows.pushN (h : MemGrows B w wr m nv ev a b xs ys) {g cap : Nat} {c x : List Value} {e : TypeId} (ho : w1.ownsRow B 166 10 (.slice (some ⟨g, 0, none⟩) (a + 1) cap) (a + 1) (xs ++ x))
    (hg : (wr.alloc (.cells c.toArray e)).grownBy w1 nv.ownBlock) : At w1 m [nv, ev] 164 ∧
    MemGrows B w (w1.setCell ⟨m, 0, none⟩ (.slice (some ⟨g, 0, none⟩) (a + 1) cap)) m (.slice (some ⟨g, 0, none⟩) (a + 1) cap) ev (a + 1) b (xs ++ x) ys := by
  have hA : At w1 m [nv, ev] 164 := (h.hd.alloc _).grown hg (h.hd.ne_row (ownsRow_base h.nodes) (by decide))
  have he : w1.ownsRow B 168 6 ev b ys := (h.ents.alloc _).kept hg (ownsRow_ne (ownsRow_base h.ents) (ownsRow_base h.nodes) (by decide))
  refine ⟨hA, hA.set 0 _, ?_, ?_, ?_, h.base, h.hm⟩
  · exact ownsRow_setOtherB ho (hA.ne_row (ownsRow_base ho) (by decide)) _
  · exact ownsRow_setOtherB he (hA.ne_row (ownsRow_base he) (by decide)) _
  · refine Fr.setNew (by rw [h.base]; exact h.hm) ((h.fr.alloc _).grown hg ?_) _ _
    intro k hk; right; rw [h.base]; exact (h.nodes.lt k hk).1
theorem MemGrows.pushE (h : MemGrows B w wr m nv ev a b xs ys) {g cap : Nat} {c : List Value} {e : TypeId} (ho : w1.ownsRow B 168 6 (.slice (some ⟨g, 0, none⟩) (b + 1) cap) (b + 1) (ys ++ PEntry.zero.cells))
    (hg : (wr.alloc (.cells c.toArray e)).grownBy w1 ev.ownBlock) : At w1 m [nv, ev] 164 ∧
    MemGrows B w (w1.setCell ⟨m, 1, none⟩ (.slice (some ⟨g, 0, none⟩) (b + 1) cap)) m nv (.slice (some ⟨g, 0, none⟩) (b + 1) cap) a (b + 1) xs (ys ++ PEntry.zero.cells) := by
  have hA : At w1 m [nv, ev] 164 := (h.hd.alloc _).grown hg (h.hd.ne_row (ownsRow_base h.ents) (by decide))
  have he : w1.ownsRow B 166 10 nv a xs := (h.nodes.alloc _).kept hg (ownsRow_ne (ownsRow_base h.nodes) (ownsRow_base h.ents) (by decide))
  refine ⟨hA, hA.set 1 _, ?_, ?_, ?_, h.base, h.hm⟩
  · exact ownsRow_setOtherB he (hA.ne_row (ownsRow_base he) (by decide)) _
  · exact ownsRow_setOtherB ho (hA.ne_row (ownsRow_base ho) (by decide)) _
  · refine Fr.setNew (by rw [h.base]; exact h.hm) ((h.fr.alloc _).grown hg ?_) _ _
    intro k hk; right; rw [h.base]; exact (h.ents.lt k hk).1
end

set_option maxHeartbeats 4000000 in
set_option maxRecDepth 100000 in
theorem MNew_calls (w : World) (nn en : Nat) (hn : nn ≤ 64) (he : en ≤ 256) (he1 : 1 ≤ en) :
    Calls Tryz.prog 63 #[.int .i64 nn, .int .i64 en] w fun e w' => ∃ l : MLay, e = .returned (.pointer (some ⟨l.m, 0, none⟩)) ∧
      MAt w' l (freshMem nn en) ∧ Fr (fun _ => False) w w' ∧ w.heap.size ≤ l.m ∧ w.heap.size ≤ l.nb ∧ w.heap.size ≤ l.eb := by
  obtain ⟨iN, hiN, hzN, hsN, hbN⟩ := info_parts Tryz.infoNode
  obtain ⟨iE, hiE, hzE, hsE, hbE⟩ := info_parts Tryz.infoEntry
  have G0 : MemGrows w.heap.size w (w.alloc (.cells [.slice none 0 0, .slice none 0 0].toArray 164)) w.heap.size (.slice none 0 0) (.slice none 0 0) 0 0 [] [] :=
    ⟨At.newAt rfl _ _, World.ownsRow_nil _ _ _ _, World.ownsRow_nil _ _ _ _, (Fr.refl _ _).alloc _, rfl, Nat.le_refl _⟩
  have HG0 := (show Hid (MemGrows _ _ _ _ _ _ _ _ _ _) from G0)
  clear G0
  go_enter Tryz.func63, Tryz.ntmps63
  go_wp2_with (at_builtin; refine wpList_push _ rfl _ _ 161 rfl w.heap.size 166 iN (.agg PNode.zero.cells.toArray) 10 72 Tryz.underlying161 hiN hzN hsN hbN rfl (by decide) _ 0 [] rfl (World.ownsRow_nil _ _ _ _) (w.heap.size + 1) anchorNode.cells rfl rfl 166 (At.newAt (by simp) _ _) (PNode.cells_one _) (by decide) (by decide) (by simp; omega) ?_)
  intro g cap w1 hown hg hge
  have R := HG0.out.pushN (c := anchorNode.cells) (x := anchorNode.cells) (e := 166) (by simpa using hown) hg
  obtain ⟨hA, hG⟩ := R
  have hc := hA.cell
  have hz := hA.frozen
  have HG1 := (show Hid (MemGrows _ _ _ _ _ _ _ _ _ _) from hG)
  have hsz := HG1.out.fr.size
  rw [World.size_setCell] at hsz
  clear hA hown hg hG HG0
  go_wp2_with (at_builtin; refine wpList_push _ rfl _ _ 161 rfl w.heap.size 166 iN (.agg PNode.zero.cells.toArray) 10 72 Tryz.underlying161 hiN hzN hsN hbN rfl (by decide) _ (0 + 1) ([] ++ anchorNode.cells) rfl (ownsRow_alloc HG1.out.nodes _) w1.heap.size endNode.cells rfl rfl 166 (At.newAt (by simp) _ _) (PNode.cells_one _) (by decide) (by decide) (by simp; omega) ?_)
  intro g2 cap2 w2 hown hg hge2
  have R := HG1.out.pushN (c := endNode.cells) (x := endNode.cells) (e := 166) (by simpa using hown) hg
  obtain ⟨hA, hG⟩ := R
  have hc := hA.cell
  have hz := hA.frozen
  have HG2 : Hid (MemGrows w.heap.size w (w2.setCell ⟨w.heap.size, 0, none⟩ (.slice (some ⟨g2, 0, none⟩) (0 + 1 + 1) cap2)) w.heap.size (.slice (some ⟨g2, 0, none⟩) (0 + 2) cap2) (.slice none 0 0) (0 + 2) 0 ((freshNodes 0).flatMap PNode.cells) []) := by
    have e : (freshNodes 0).flatMap PNode.cells = ([] ++ anchorNode.cells) ++ endNode.cells := by simp [freshNodes]
    rw [e]; exact hG
  clear hA hown hg hG HG1 hsz
  go_wp2_with fail
  clear hc hz
  go_loopw [6] (fun i wr => ∃ k g cap : Nat, k ≤ nn ∧ i = .int .i64 k ∧ Hid (MemGrows w.heap.size w wr w.heap.size (.slice (some ⟨g, 0, none⟩) (k + 2) cap) (.slice none 0 0) (k + 2) 0 ((freshNodes k).flatMap PNode.cells) [])) (fun i _ => nn - (intOf i).toNat)
  case atStart => exact ⟨0, g2, cap2, Nat.zero_le _, rfl, HG2⟩
  case round =>
    obtain ⟨k, g, cap, hk, rfl, HG⟩ := hrel
    have hc := HG.out.hd.cell
    have hz := HG.out.hd.frozen
    have hsz := HG.out.fr.size
    have hlt := HG.out.hd.lt
    by_cases hkn : k < nn
    · go_wp2_with (at_builtin; refine wpList_push _ rfl _ _ 161 rfl w.heap.size 166 iN (.agg PNode.zero.cells.toArray) 10 72 Tryz.underlying161 hiN hzN hsN hbN rfl (by decide) _ (k + 2) _ rfl (ownsRow_alloc HG.out.nodes _) wr.heap.size PNode.zero.cells rfl rfl 166 (At.newAt (by simp) _ _) (PNode.cells_one _) (by unfold maxLen; omega) (by omega) (by simp; omega) ?_)
      intro g' cap' w' hown hg hge'
      have R := HG.out.pushN (c := PNode.zero.cells) (x := PNode.zero.cells) (e := 166) hown hg
      obtain ⟨hA, hG⟩ := R
      have hc := hA.cell
      have hz := hA.frozen
      rw [← freshNodes_succ, show k + 2 + 1 = k + 1 + 2 by omega] at hG
      have HG' := (show Hid (MemGrows _ _ _ _ _ _ _ _ _ _) from hG)
      clear hA hown hg hG HG hsz hlt
      go_wp2
      go_roundw
      case rel => exact ⟨k + 1, g', cap', by omega, by go_num, HG'⟩
      case measure => simp [intOf]; omega
    · have hkn' : k = nn := by omega
      subst hkn'
      clear hlt hsz
      go_wp2_with fail
      clear hc hz
      go_loopw [7] (fun i wr => ∃ (j : Nat) (ev : Value), j ≤ en ∧ i = .int .i64 j ∧ Hid (MemGrows w.heap.size w wr w.heap.size (.slice (some ⟨g, 0, none⟩) (k + 2) cap) ev (k + 2) j ((freshNodes k).flatMap PNode.cells) ((List.replicate j PEntry.zero).flatMap PEntry.cells))) (fun i _ => en - (intOf i).toNat)
      case atStart => exact ⟨0, _, Nat.zero_le _, rfl, HG⟩
      case round =>
        obtain ⟨j, ev, hj, rfl, HG⟩ := hrel
        have hc := HG.out.hd.cell
        have hz := HG.out.hd.frozen
        have hsz := HG.out.fr.size
        have hlt := HG.out.hd.lt
        by_cases hjn : j < en
        · go_wp2_with (at_builtin; refine wpList_push _ rfl _ _ 162 rfl w.heap.size 168 iE (.agg PEntry.zero.cells.toArray) 6 40 Tryz.underlying162 hiE hzE hsE hbE rfl (by decide) _ j _ rfl (ownsRow_alloc HG.out.ents _) wr.heap.size PEntry.zero.cells rfl rfl 168 (At.newAt (by simp) _ _) (PEntry.cells_one _) (by unfold maxLen; omega) (by omega) (by simp; omega) ?_)
          intro g' cap' w' hown hg hge'
          have R := HG.out.pushE (c := PEntry.zero.cells) (e := 168) hown hg
          obtain ⟨hA, hG⟩ := R
          have hc := hA.cell
          have hz := hA.frozen
          rw [← freshEnts_succ] at hG
          have HG' := (show Hid (MemGrows _ _ _ _ _ _ _ _ _ _) from hG)
          clear hA hown hg hG HG hsz hlt
          go_wp2
          go_roundw
          case rel => exact ⟨j + 1, _, by omega, by go_num, HG'⟩
          case measure => simp [intOf]; omega
        · have hjn' : j = en := by omega
          subst hjn'
          obtain ⟨eb, ecap, rfl, _⟩ := ownsRow_shape (ownsRow_base HG.out.ents) (by omega)
          have hM : MemAt wr w.heap.size g cap eb ecap (freshNodes k) (List.replicate j PEntry.zero) := by
            have l1 : (freshNodes k).length = k + 2 := by simp [freshNodes]
            refine ⟨?_, ?_, ?_, by omega, by simpa using he⟩
            · rw [l1, List.length_replicate]; exact HG.out.hd
            · rw [l1]; exact ownsRow_base HG.out.nodes
            · rw [List.length_replicate]; exact ownsRow_base HG.out.ents
          have hfr := HG.out.fr
          have hgb := (HG.out.nodes.lt g rfl).1
          have heb := (HG.out.ents.lt eb rfl).1
          have HM : Hid (MemAt wr w.heap.size g cap eb ecap (freshNodes k) (List.replicate j PEntry.zero)) := hM
          have HF : Hid (Fr (fun _ => False) w wr) := hfr
          clear hM hfr HG hc hz hsz hlt
          go_wp2_with fail
          refine (AddLink_calls (l := ⟨w.heap.size, g, cap, eb, ecap⟩) (M := ⟨freshNodes k, List.replicate j PEntry.zero⟩) HM.out 0 1).mono ?_
          rintro e w5 ⟨rfl, hM5, hF5⟩
          have HM5 := (show Hid (MAt w5 ⟨w.heap.size, g, cap, eb, ecap⟩ _) from hM5)
          have HF5 := (show Hid (MFr _ wr w5) from hF5)
          clear hM5 hF5
          go_wp2_with fail
          refine (StampNew_calls HM5.out 0 0).mono ?_
          rintro e w6 ⟨rfl, hM6, hF6⟩
          have HM6 := (show Hid (MAt w6 ⟨w.heap.size, g, cap, eb, ecap⟩ _) from hM6)
          have HF6 := (show Hid (MFr _ w5 w6) from hF6)
          clear hM6 hF6
          go_wp2
          go_ret
          refine ⟨⟨w.heap.size, g, cap, eb, ecap⟩, rfl, HM6.out, ?_, Nat.le_refl _, hgb, heb⟩
          exact Fr.transNew (Fr.transNew HF.out HF5.out (by rintro k (rfl | rfl); exact .inr hgb; exact .inr heb)) HF6.out (by rintro k (rfl | rfl); exact .inr hgb; exact .inr heb)
/-- What a new memory holds. -/
theorem freshMem_eq (nn en : Nat) : freshMem nn (en + 1) = ⟨linked false 1 anchorNode :: endNode :: List.replicate nn PNode.zero, (⟨true, false, 0, false, 1, 0⟩ : PEntry) :: List.replicate en PEntry.zero⟩ := by
  have h1 : (⟨freshNodes nn, List.replicate (en + 1) PEntry.zero⟩ : PMem).hasNode 0 = true := isIn_true (by simp [freshNodes]; omega)
  have h2 : (⟨freshNodes nn, List.replicate (en + 1) PEntry.zero⟩ : PMem).freeEntry = 0 := by simp [PMem.freeEntry, find, List.replicate_succ, PEntry.zero]
  have h3 : (⟨freshNodes nn, List.replicate (en + 1) PEntry.zero⟩ : PMem).node 0 = anchorNode := by unfold PMem.node; rw [h1]; rfl
  have e1 : (⟨freshNodes nn, List.replicate (en + 1) PEntry.zero⟩ : PMem).modN 0 (linked false 1) = ⟨linked false 1 anchorNode :: endNode :: List.replicate nn PNode.zero, List.replicate (en + 1) PEntry.zero⟩ := by
    unfold PMem.modN; rw [h1]; simp [freshNodes]
  have e2 : (⟨freshNodes nn, List.replicate (en + 1) PEntry.zero⟩ : PMem).addLink 0 1 = (⟨linked false 1 anchorNode :: endNode :: List.replicate nn PNode.zero, List.replicate (en + 1) PEntry.zero⟩ : PMem).pend 0 false 1 := by
    unfold PMem.addLink; rw [h1, h2, h3, e1]; simp [anchorNode, PNode.zero]
  have h4 : (⟨linked false 1 anchorNode :: endNode :: List.replicate nn PNode.zero, List.replicate (en + 1) PEntry.zero⟩ : PMem).hasNode 0 = true := isIn_true (by simp; omega)
  have h5 : (⟨linked false 1 anchorNode :: endNode :: List.replicate nn PNode.zero, List.replicate (en + 1) PEntry.zero⟩ : PMem).freeEntry = 0 := by simp [PMem.freeEntry, find, List.replicate_succ, PEntry.zero]
  have h6 : (⟨linked false 1 anchorNode :: endNode :: List.replicate nn PNode.zero, List.replicate (en + 1) PEntry.zero⟩ : PMem).hasLink 0 false = true := by
    unfold PMem.hasLink PMem.node; rw [h4]; rfl
  have h7 : (⟨linked false 1 anchorNode :: endNode :: List.replicate nn PNode.zero, List.replicate (en + 1) PEntry.zero⟩ : PMem).hasEntry 0 = true := isIn_true (by simp)
  have e3 : (⟨linked false 1 anchorNode :: endNode :: List.replicate nn PNode.zero, List.replicate (en + 1) PEntry.zero⟩ : PMem).pend 0 false 1 = ⟨linked false 1 anchorNode :: endNode :: List.replicate nn PNode.zero, (⟨true, true, 0, false, 1, 0⟩ : PEntry) :: List.replicate en PEntry.zero⟩ := by
    unfold PMem.pend; rw [h5, h6, h7]; simp [PMem.setE, List.replicate_succ]
  have h8 : ∀ e : PEntry, (⟨linked false 1 anchorNode :: endNode :: List.replicate nn PNode.zero, e :: List.replicate en PEntry.zero⟩ : PMem).hasEntry 0 = true := fun e => isIn_true (by simp)
  have h9 : (⟨linked false 1 anchorNode :: endNode :: List.replicate nn PNode.zero, (⟨true, true, 0, false, 1, 0⟩ : PEntry) :: List.replicate en PEntry.zero⟩ : PMem).pending 0 false = 0 := by
    simp [PMem.pending, find, isPd]
  have h10 : (⟨linked false 1 anchorNode :: endNode :: List.replicate nn PNode.zero, (⟨true, false, 0, false, 1, 0⟩ : PEntry) :: List.replicate en PEntry.zero⟩ : PMem).pending 0 true = -1 := by
    unfold PMem.pending
    apply find_miss
    intro j hj y hy
    have : y ∈ (⟨true, false, 0, false, 1, 0⟩ : PEntry) :: List.replicate en PEntry.zero := List.mem_of_getElem? hy
    simp at this
    rcases this with rfl | ⟨_, rfl⟩ <;> simp [isPd, PEntry.zero]
  unfold freshMem PMem.stampNew
  rw [e2, e3]
  have e4 : (⟨linked false 1 anchorNode :: endNode :: List.replicate nn PNode.zero, (⟨true, true, 0, false, 1, 0⟩ : PEntry) :: List.replicate en PEntry.zero⟩ : PMem).stamp 0 false 0 = ⟨linked false 1 anchorNode :: endNode :: List.replicate nn PNode.zero, (⟨true, false, 0, false, 1, 0⟩ : PEntry) :: List.replicate en PEntry.zero⟩ := by
    unfold PMem.stamp; rw [h9, h8]; simp [PMem.setE, PMem.ent]
  rw [e4]
  have h11 : ∀ M : PMem, M.hasEntry (-1) = false := fun M => isIn_false (by omega)
  unfold PMem.stamp; rw [h10, h11]; simp
theorem freshMem_room (nn en : Nat) : (freshMem nn (en + 1)).room = ((nn : Int), (en : Int)) := by
  rw [freshMem_eq]
  simp [PMem.room, count, linked, anchorNode, endNode, PNode.zero, PEntry.zero]
end Go.Proofs.YtfccelbmacjifaaGreat

namespace Go.Proofs.YtfccelbmacjifaaGreat
open Go.RowKit

/-- Where a worker's rows lie. -/
structure WLay where
  b : Nat
  spans : Value
  made : Value
  links : Value
  noted : Value
  aspans : Value
  lspans : Value
def PThread.cells (t : PThread) (i : Nat) (l : WLay) : List Value :=
  [.int .i64 i, .int .i64 t.slot, .bool t.busy,
   .int .i64 t.work.kind, .int .i64 t.work.key, .int .i64 t.work.value, l.spans, .int .i64 t.work.next, .int .i64 t.work.time, .int .i64 t.work.stand, .int .i64 t.work.ahead, .int .i64 t.work.above, .int .i64 t.work.locks,
   l.made, .int .i64 t.work.tsrc, .int .i64 (b2i t.work.tside), l.links, l.noted,
   .int .i64 t.work.ans.err, .bool t.work.ans.did, .int .i64 t.work.ans.value, .int .i64 t.work.ans.stamp, l.aspans,
   .bool t.hasEnded, .int .i64 t.last.err, .bool t.last.did, .int .i64 t.last.value, .int .i64 t.last.stamp, l.lspans]
structure ZLay where
  s : Nat
  ml : MLay
  tv : Value
  wks : List WLay
  retired : Value
structure WkAt (own : Own) (z : Nat) (w : World) (i : Nat) (l : WLay) (t : PThread) : Prop where
  at_ : At w l.b (t.cells i l) 114
  tg : own l.b = ⟨z, .thread i⟩
  spans : Row own z w (.tr i 0) 138 2 l.spans t.work.spans.length (t.work.spans.flatMap pairCells)
  made : Row own z w (.tr i 1) 3 1 l.made t.work.made.length (intCells t.work.made)
  links : Row own z w (.tr i 2) 109 2 l.links t.work.links.length (t.work.links.flatMap linkCells)
  noted : Row own z w (.tr i 3) 147 2 l.noted t.work.noted.length (t.work.noted.flatMap pairCells)
  alists : ListsAt own z w l.aspans t.work.ans.spans
  llists : ListsAt own z w l.lspans t.last.spans
def wptrs (l : List WLay) : List Value := l.map fun x => .pointer (some ⟨x.b, 0, none⟩)
def PSt.head (P : PSt) (L : ZLay) : List Value :=
  [.int .i64 P.kind, .int .i64 P.limit, .int .i64 P.clock, .pointer (some ⟨L.ml.m, 0, none⟩), L.tv, .int .i64 P.sweep.made, .int .i64 P.sweep.clock, L.retired, .bool P.sweep.hasTime, .int .i64 P.sweep.time]
structure ZAt (own : Own) (z : Nat) (w : World) (L : ZLay) (P : PSt) : Prop where
  hd : At w L.s (P.head L) 105
  hown : own L.s = ⟨z, .store⟩
  mem : MAt w L.ml P.mem
  mo : own L.ml.m = ⟨z, .oth 0⟩
  no : own L.ml.nb = ⟨z, .oth 1⟩
  eo : own L.ml.eb = ⟨z, .oth 2⟩
  th : Row own z w .thl 107 1 L.tv P.ts.length (wptrs L.wks)
  wlen : L.wks.length = P.ts.length
  wk : ∀ (i : Nat) (l : WLay) (t : PThread), L.wks[i]? = some l → P.ts[i]? = some t → WkAt own z w i l t
  ret : Row own z w .gone 3 1 L.retired P.sweep.retired.length (natCells P.sweep.retired)
  few : P.ts.length ≤ 8

section
variable {own own' : Own} {z : Nat} {w w' : World} {S : Nat → Prop}
theorem WkAt.fr {i : Nat} {l : WLay} {t : PThread} (h : WkAt own z w i l t) (hf : Fr S w w') (he : Ext own own' w) (h1 : ∀ k, own k = ⟨z, .thread i⟩ → ¬ S k) (h2 : ∀ k j, own k = ⟨z, .tr i j⟩ → ¬ S k)
    (h3 : ∀ k, own k = ⟨z, .lists⟩ → ¬ S k) : WkAt own' z w' i l t :=
  ⟨(at_fr h.at_ h.tg hf he h1).1, (at_fr h.at_ h.tg hf he h1).2, h.spans.fr hf he (fun k => h2 k _), h.made.fr hf he (fun k => h2 k _), h.links.fr hf he (fun k => h2 k _), h.noted.fr hf he (fun k => h2 k _),
    h.alists.fr hf he h3, h.llists.fr hf he h3⟩
variable {L : ZLay} {P : PSt}
/-- What does not touch the zone leaves the store as it is. -/
theorem ZAt.fr (h : ZAt own z w L P) (hf : Fr S w w') (he : Ext own own' w) (hS : ∀ k, (own k).z = z → ¬ S k) : ZAt own' z w' L P := by
  have hT : ∀ tag k, own k = ⟨z, tag⟩ → ¬ S k := fun tag k hk => hS k (by rw [hk])
  have hh := at_fr h.hd h.hown hf he (hT _)
  refine ⟨hh.1, hh.2, MAt.same h.mem hf (hT _ _ h.mo) (hT _ _ h.no) (hT _ _ h.eo), ?_, ?_, ?_, h.th.fr hf he (hT _), h.wlen, fun i l t hl ht => (h.wk i l t hl ht).fr hf he (hT _) (fun k j => hT _ k) (hT _), h.ret.fr hf he (hT _), h.few⟩
  · rw [he _ h.mem.hd.lt]; exact h.mo
  · rw [he _ (ownsRow_lt0 h.mem.nodes)]; exact h.no
  · rw [he _ (ownsRow_lt0 h.mem.ents)]; exact h.eo
theorem ZAt.calm (h : ZAt own z w L P) (hf : Fr (fun _ => False) w w') : ZAt own z w' L P := h.fr hf (Ext.refl _ _) (fun _ _ h => h)
/-- The memory is turned. -/
theorem ZAt.memSet (h : ZAt own z w L P) {M : PMem} (hm : MAt w' L.ml M) (hf : MFr L.ml w w') : ZAt own z w' L (P.setM M) ∧ FrZ own z w w' := by
  have he := Ext.refl own w
  have hT : ∀ tag, tag ≠ Tag.oth 1 → tag ≠ Tag.oth 2 → ∀ k, own k = ⟨z, tag⟩ → ¬ (k = L.ml.nb ∨ k = L.ml.eb) := by
    rintro tag h1 h2 k hk (rfl | rfl)
    · rw [h.no] at hk; simp at hk; exact h1 hk.symm
    · rw [h.eo] at hk; simp at hk; exact h2 hk.symm
  have hh := at_fr h.hd h.hown hf he (hT _ (by simp) (by simp))
  refine ⟨⟨hh.1, hh.2, hm, h.mo, h.no, h.eo, h.th.fr hf he (hT _ (by simp) (by simp)), h.wlen,
    fun i l t hl ht => (h.wk i l t hl ht).fr hf he (hT _ (by simp) (by simp)) (fun k j => hT _ (by simp) (by simp) k) (hT _ (by simp) (by simp)), h.ret.fr hf he (hT _ (by simp) (by simp)), h.few⟩, ?_⟩
  refine Fr.mono hf ?_
  rintro k _ (rfl | rfl)
  · rw [h.no]
  · rw [h.eo]
/-- A worker is turned. -/
theorem ZAt.wkSet (h : ZAt own z w L P) {i : Nat} {l l' : WLay} {t' : PThread} (hl : L.wks[i]? = some l) (hb : l'.b = l.b)
    (hf : FrT own z (fun t => t = .thread i ∨ ∃ k, t = .tr i k) w w') (he : Ext own own' w) (hx : WkAt own' z w' i l' t') :
    ZAt own' z w' { L with wks := L.wks.set i l' } (P.setT i t') := by
  have hn : ∀ tag : Tag, ¬ (tag = .thread i ∨ ∃ k, tag = .tr i k) → ∀ k, own k = ⟨z, tag⟩ → ¬ ((own k).z = z ∧ ((own k).tag = .thread i ∨ ∃ j, (own k).tag = .tr i j)) := fun tag ht => not_tag (A := fun t => t = .thread i ∨ ∃ k, t = .tr i k) ht
  have hh := at_fr h.hd h.hown hf he (hn _ (by simp))
  have hp : wptrs (L.wks.set i l') = wptrs L.wks := by
    unfold wptrs
    rw [List.map_set]
    apply List.ext_getElem?
    intro j
    rw [List.getElem?_set]
    split
    · next e =>
      subst e
      split
      · simp [hl, hb]
      · next h2 => simp at h2; simp [List.getElem?_eq_none h2]
    · rfl
  refine ⟨hh.1, hh.2, MAt.same h.mem hf (hn _ (by simp) _ h.mo) (hn _ (by simp) _ h.no) (hn _ (by simp) _ h.eo), ?_, ?_, ?_, ?_, by simp [h.wlen, PSt.setT], ?_, h.ret.fr hf he (hn _ (by simp)), by simp [PSt.setT, h.few]⟩
  · rw [he _ h.mem.hd.lt]; exact h.mo
  · rw [he _ (ownsRow_lt0 h.mem.nodes)]; exact h.no
  · rw [he _ (ownsRow_lt0 h.mem.ents)]; exact h.eo
  · simp only [hp, List.length_set, PSt.setT]
    exact h.th.fr hf he (hn _ (by simp))
  · intro j l1 t1 hl1 ht1
    simp only [List.getElem?_set, PSt.setT] at hl1 ht1
    by_cases e : i = j
    · subst e
      rw [if_pos rfl] at hl1 ht1
      split at hl1 <;> simp at hl1
      split at ht1 <;> simp at ht1
      subst hl1; subst ht1; exact hx
    · rw [if_neg e] at hl1 ht1
      exact (h.wk j l1 t1 hl1 ht1).fr hf he (hn _ (by simp; omega)) (fun k j => hn _ (by simp; omega) k) (hn _ (by simp))
theorem setL_same {α : Type} {l : List α} {i : Nat} {x : α} (h : l[i]? = some x) : l.set i x = l := by
  apply List.ext_getElem?
  intro j
  rw [List.getElem?_set]
  split
  · next e =>
    subst e
    split
    · rw [h]
    · next h2 => simp at h2; simp [List.getElem?_eq_none h2]
  · rfl
/-- Only the cells of a worker's block have turned. -/
theorem ZAt.wkCells (h : ZAt own z w L P) {i : Nat} {l : WLay} {t t' : PThread} (hl : L.wks[i]? = some l) (ht : P.ts[i]? = some t) (hf : Fr (fun k => k = l.b) w w') (hA : At w' l.b (t'.cells i l) 114)
    (e1 : t'.work.spans = t.work.spans) (e2 : t'.work.made = t.work.made) (e3 : t'.work.links = t.work.links) (e4 : t'.work.noted = t.work.noted) (e6 : t'.work.ans.spans = t.work.ans.spans) (e7 : t'.last.spans = t.last.spans) :
    ZAt own z w' L (P.setT i t') ∧ FrZ own z w w' := by
  have hT := h.wk i l t hl ht
  have hF : FrT own z (fun t => t = .thread i ∨ ∃ k, t = .tr i k) w w' := FrT.one hf hT.tg (.inl rfl)
  have hn : ∀ tag, tag ≠ Tag.thread i → ∀ k, own k = ⟨z, tag⟩ → ¬ k = l.b := by
    rintro tag hne k hk rfl; rw [hT.tg] at hk; simp at hk; exact hne hk.symm
  have hE := Ext.refl own w
  have hS : ({ L with wks := L.wks.set i l } : ZLay) = L := by rw [setL_same hl]
  refine ⟨?_, hF.zone⟩
  rw [← hS]
  refine h.wkSet hl rfl hF hE (l' := l) ?_
  refine ⟨hA, hT.tg, ?_, ?_, ?_, ?_, ?_, ?_⟩
  · rw [e1]; exact hT.spans.fr hf hE (hn _ (by simp))
  · rw [e2]; exact hT.made.fr hf hE (hn _ (by simp))
  · rw [e3]; exact hT.links.fr hf hE (hn _ (by simp))
  · rw [e4]; exact hT.noted.fr hf hE (hn _ (by simp))
  · rw [e6]; exact hT.alists.fr hf hE (hn _ (by simp))
  · rw [e7]; exact hT.llists.fr hf hE (hn _ (by simp))
/-- The store has gone on to P'; the workers' blocks stand where they stood. -/
def ZGoes (own : Own) (z : Nat) (w : World) (L : ZLay) (P' : PSt) (w' : World) : Prop :=
  ∃ own' L', ZAt own' z w' L' P' ∧ Ext own own' w ∧ FrZ own z w w' ∧ L'.s = L.s ∧ L'.ml = L.ml ∧ L'.wks.map (·.b) = L.wks.map (·.b)
theorem ZGoes.here {P' : PSt} (h : ZAt own z w' L P' ∧ FrZ own z w w') : ZGoes own z w L P' w' := ⟨own, L, h.1, Ext.refl _ _, h.2, rfl, rfl, rfl⟩
theorem ZGoes.trans {w1 w2 : World} {L1 : ZLay} {P2 : PSt} {own1 : Own} (hE : Ext own own1 w) (hF : FrZ own z w w1) (hs : L1.s = L.s) (hm : L1.ml = L.ml) (ht : L1.wks.map (·.b) = L.wks.map (·.b)) (h : ZGoes own1 z w1 L1 P2 w2) : ZGoes own z w L P2 w2 := by
  obtain ⟨own2, L2, hB, hE2, hF2, e1, e2, e3⟩ := h
  exact ⟨own2, L2, hB, Ext.trans hE hE2 hF.size, FrZ.trans hF hE hF2, e1.trans hs, e2.trans hm, e3.trans ht⟩
theorem ZGoes.calm {w1 : World} {P' : PSt} (hF : Fr (fun _ => False) w w1) (h : ZGoes own z w1 L P' w') : ZGoes own z w L P' w' :=
  ZGoes.trans (w1 := w1) (L1 := L) (Ext.refl _ _) (Fr.mono hF (fun _ _ h => h.elim)) rfl rfl rfl h
/-- Where a worker lies behind it all. -/
theorem wks_get {L L' : ZLay} (h : L'.wks.map (·.b) = L.wks.map (·.b)) {i : Nat} {l : WLay} (hl : L.wks[i]? = some l) : ∃ l', L'.wks[i]? = some l' ∧ l'.b = l.b := by
  have : (L'.wks.map (·.b))[i]? = some l.b := by rw [h]; simp [hl]
  rw [List.getElem?_map] at this
  cases h' : L'.wks[i]? with
  | none => rw [h'] at this; simp at this
  | some l' => rw [h'] at this; simp at this; exact ⟨l', rfl, this⟩
/-- What a walk sees of a worker and of the store. -/
theorem ZAt.view (h : ZAt own z w L P) {i : Nat} {l : WLay} {t : PThread} (hl : L.wks[i]? = some l) (ht : P.ts[i]? = some t) :
    (∀ o, w.cell? ⟨l.b, o, none⟩ = (t.cells i l)[o]?) ∧ (∀ o, w.frozen? ⟨l.b, o, none⟩ = false) ∧ l.b < w.heap.size ∧ (∀ o, w.cell? ⟨L.s, o, none⟩ = (P.head L)[o]?) ∧ (∀ o, w.frozen? ⟨L.s, o, none⟩ = false) ∧ L.s < w.heap.size ∧ L.s ≠ l.b ∧ l.b ≠ L.s := by
  have hT := h.wk i l t hl ht
  have n1 : L.s ≠ l.b := h.hd.ne hT.at_ (by decide)
  exact ⟨hT.at_.cell, hT.at_.frozen, hT.at_.lt, h.hd.cell, h.hd.frozen, h.hd.lt, n1, n1.symm⟩
end

end Go.Proofs.YtfccelbmacjifaaGreat

