import Derived.Test.YtfccelbmacjifaaRows
import Derived.Test.YtfccelbmacjifaaXPure
namespace Go.Proofs.Ytfccelbmacjifaa
open Go.RowKit

def PNode.cells (n : PNode) : List Value :=
  [.int .i64 n.key, .int .i64 n.value, .bool n.dead, .bool n.retired, .int .i64 n.retiredAt, .bool n.used, .int .i64 n.holder, .int .i64 n.links, .int .i64 (n.leads false), .int .i64 (n.leads true)]
theorem PNode.cells_len (n : PNode) : n.cells.length = 10 := rfl
theorem PNode.cells_one (n : PNode) : ∀ u ∈ n.cells, u.oneCell' = true := by
  intro u hu; simp only [PNode.cells, List.mem_cons, List.not_mem_nil, or_false] at hu
  rcases hu with rfl | rfl | rfl | rfl | rfl | rfl | rfl | rfl | rfl | rfl <;> rfl
def PEntry.cells (e : PEntry) : List Value := [.bool e.used, .bool e.pending, .int .i64 e.src, .int .i64 (b2i e.side), .int .i64 e.dst, .int .i64 e.stamp]
theorem PEntry.cells_len (e : PEntry) : e.cells.length = 6 := rfl
theorem PEntry.cells_one (n : PEntry) : ∀ u ∈ n.cells, u.oneCell' = true := by
  intro u hu; simp only [PEntry.cells, List.mem_cons, List.not_mem_nil, or_false] at hu
  rcases hu with rfl | rfl | rfl | rfl | rfl | rfl <;> rfl

/-- The memory's block m: the nodes in block nb, the entries in block eb. -/
structure MemAt (w : World) (m nb ncap eb ecap : Nat) (ns : List PNode) (es : List PEntry) : Prop where
  hd : At w m [.slice (some ⟨nb, 0, none⟩) ns.length ncap, .slice (some ⟨eb, 0, none⟩) es.length ecap] 105
  nodes : w.ownsRow 0 107 10 (.slice (some ⟨nb, 0, none⟩) ns.length ncap) ns.length (ns.flatMap PNode.cells)
  ents : w.ownsRow 0 109 6 (.slice (some ⟨eb, 0, none⟩) es.length ecap) es.length (es.flatMap PEntry.cells)
  nsmall : ns.length ≤ 66
  esmall : es.length ≤ 256

section
variable {w : World} {m nb ncap eb ecap : Nat} {ns : List PNode} {es : List PEntry}
theorem MemAt.node (h : MemAt w m nb ncap eb ecap ns es) {i : Nat} {x : PNode} (hx : ns[i]? = some x) {j : Nat} {u : Value} (hu : x.cells[j]? = some u) : w.cell? ⟨nb, i * 10 + j, none⟩ = some u := by
  have hj : j < 10 := by have := (List.getElem?_eq_some_iff.1 hu).1; simpa [PNode.cells_len] using this
  exact ownsRow_cell h.nodes ((tab_get PNode.cells 10 PNode.cells_len ns i j x hx hj).trans hu)
theorem MemAt.ent (h : MemAt w m nb ncap eb ecap ns es) {i : Nat} {x : PEntry} (hx : es[i]? = some x) {j : Nat} {u : Value} (hu : x.cells[j]? = some u) : w.cell? ⟨eb, i * 6 + j, none⟩ = some u := by
  have hj : j < 6 := by have := (List.getElem?_eq_some_iff.1 hu).1; simpa [PEntry.cells_len] using this
  exact ownsRow_cell h.ents ((tab_get PEntry.cells 6 PEntry.cells_len es i j x hx hj).trans hu)
theorem MemAt.apart (h : MemAt w m nb ncap eb ecap ns es) : m ≠ nb ∧ m ≠ eb ∧ nb ≠ eb := by
  have h1 := h.hd.ne_row h.nodes (by decide)
  have h2 := h.hd.ne_row h.ents (by decide)
  have h3 := ownsRow_ne h.nodes h.ents (by decide)
  simp [Value.ownBlock] at h1 h2 h3
  exact ⟨fun e => h1 e.symm, fun e => h2 e.symm, h3⟩
theorem MemAt.drew (h : MemAt w m nb ncap eb ecap ns es) : MemAt w.drew m nb ncap eb ecap ns es := ⟨h.hd, h.nodes, h.ents, h.nsmall, h.esmall⟩
theorem MemAt.fr {S : Nat → Prop} {w' : World} (h : MemAt w m nb ncap eb ecap ns es) (hf : Fr S w w') (hm : ¬ S m) (hn : ¬ S nb) (he : ¬ S eb) : MemAt w' m nb ncap eb ecap ns es :=
  ⟨hf.at h.hd hm, hf.owns h.nodes (fun k hk => by simp [Value.ownBlock] at hk; subst hk; exact hn), hf.owns h.ents (fun k hk => by simp [Value.ownBlock] at hk; subst hk; exact he), h.nsmall, h.esmall⟩
theorem MemAt.setEnt (h : MemAt w m nb ncap eb ecap ns es) {i : Nat} {x : PEntry} (hx : es[i]? = some x) (j : Nat) (y : PEntry) (u : Value) (hj : j < 6) (hs : x.cells.set j u = y.cells) :
    MemAt (w.setCell ⟨eb, i * 6 + j, none⟩ u) m nb ncap eb ecap ns (es.set i y) := by
  obtain ⟨h1, h2, h3⟩ := h.apart
  have hl : (es.set i y).length = es.length := by simp
  refine ⟨by rw [hl]; exact h.hd.setOther _ h2 _, ownsRow_setOther h.nodes (by simpa [Value.ownBlock] using h3) _, ?_, h.nsmall, by rw [hl]; exact h.esmall⟩
  rw [hl, ← tab_set PEntry.cells 6 PEntry.cells_len es i j x y u hx hj hs]
  exact ownsRow_set h.ents _ _
theorem MemAt.setNode (h : MemAt w m nb ncap eb ecap ns es) {i : Nat} {x : PNode} (hx : ns[i]? = some x) (j : Nat) (y : PNode) (u : Value) (hj : j < 10) (hs : x.cells.set j u = y.cells) :
    MemAt (w.setCell ⟨nb, i * 10 + j, none⟩ u) m nb ncap eb ecap (ns.set i y) es := by
  obtain ⟨h1, h2, h3⟩ := h.apart
  have hl : (ns.set i y).length = ns.length := by simp
  refine ⟨by rw [hl]; exact h.hd.setOther _ h1 _, ?_, ownsRow_setOther h.ents (by simpa [Value.ownBlock] using h3.symm) _, by rw [hl]; exact h.nsmall, h.esmall⟩
  rw [hl, ← tab_set PNode.cells 10 PNode.cells_len ns i j x y u hx hj hs]
  exact ownsRow_set h.nodes _ _
theorem get_set_same {α : Type} {l : List α} {i : Nat} {x y : α} (hx : l[i]? = some x) : (l.set i y)[i]? = some y := by
  have := (List.getElem?_eq_some_iff.1 hx).1
  simp [this]
/-- A whole entry is written. -/
theorem MemAt.putEnt (h : MemAt w m nb ncap eb ecap ns es) {i : Nat} {x : PEntry} (hx : es[i]? = some x) (y : PEntry) :
    MemAt ((((((w.setCell ⟨eb, i * 6, none⟩ (.bool y.used)).setCell ⟨eb, i * 6 + 1, none⟩ (.bool y.pending)).setCell ⟨eb, i * 6 + 2, none⟩ (.int .i64 y.src)).setCell ⟨eb, i * 6 + 3, none⟩ (.int .i64 (b2i y.side))).setCell
      ⟨eb, i * 6 + 4, none⟩ (.int .i64 y.dst)).setCell ⟨eb, i * 6 + 5, none⟩ (.int .i64 y.stamp)) m nb ncap eb ecap ns (es.set i y) := by
  have a0 := h.setEnt hx 0 { x with used := y.used } (.bool y.used) (by decide) rfl
  have a1 := a0.setEnt (get_set_same hx) 1 { x with used := y.used, pending := y.pending } (.bool y.pending) (by decide) rfl
  have a2 := a1.setEnt (get_set_same (get_set_same hx)) 2 { y with side := x.side, dst := x.dst, stamp := x.stamp } (.int .i64 y.src) (by decide) rfl
  have a3 := a2.setEnt (get_set_same (get_set_same (get_set_same hx))) 3 { y with dst := x.dst, stamp := x.stamp } (.int .i64 (b2i y.side)) (by decide) rfl
  have a4 := a3.setEnt (get_set_same (get_set_same (get_set_same (get_set_same hx)))) 4 { y with stamp := x.stamp } (.int .i64 y.dst) (by decide) rfl
  have a5 := a4.setEnt (get_set_same (get_set_same (get_set_same (get_set_same (get_set_same hx))))) 5 y (.int .i64 y.stamp) (by decide) rfl
  simpa [List.set_set] using a5
/-- A whole node is written. -/
theorem MemAt.putNode (h : MemAt w m nb ncap eb ecap ns es) {i : Nat} {x : PNode} (hx : ns[i]? = some x) (y : PNode) :
    MemAt ((((((((((w.setCell ⟨nb, i * 10, none⟩ (.int .i64 y.key)).setCell ⟨nb, i * 10 + 1, none⟩ (.int .i64 y.value)).setCell ⟨nb, i * 10 + 2, none⟩ (.bool y.dead)).setCell ⟨nb, i * 10 + 3, none⟩ (.bool y.retired)).setCell
      ⟨nb, i * 10 + 4, none⟩ (.int .i64 y.retiredAt)).setCell ⟨nb, i * 10 + 5, none⟩ (.bool y.used)).setCell ⟨nb, i * 10 + 6, none⟩ (.int .i64 y.holder)).setCell ⟨nb, i * 10 + 7, none⟩ (.int .i64 y.links)).setCell
      ⟨nb, i * 10 + 8, none⟩ (.int .i64 (y.leads false))).setCell ⟨nb, i * 10 + 9, none⟩ (.int .i64 (y.leads true))) m nb ncap eb ecap (ns.set i y) es := by
  have a0 := h.setNode hx 0 { x with key := y.key } (.int .i64 y.key) (by decide) rfl
  have g0 := get_set_same (y := { x with key := y.key }) hx
  have a1 := a0.setNode g0 1 { x with key := y.key, value := y.value } (.int .i64 y.value) (by decide) rfl
  have g1 := get_set_same (y := { x with key := y.key, value := y.value }) g0
  have a2 := a1.setNode g1 2 { x with key := y.key, value := y.value, dead := y.dead } (.bool y.dead) (by decide) rfl
  have g2 := get_set_same (y := { x with key := y.key, value := y.value, dead := y.dead }) g1
  have a3 := a2.setNode g2 3 { x with key := y.key, value := y.value, dead := y.dead, retired := y.retired } (.bool y.retired) (by decide) rfl
  have g3 := get_set_same (y := { x with key := y.key, value := y.value, dead := y.dead, retired := y.retired }) g2
  have a4 := a3.setNode g3 4 { x with key := y.key, value := y.value, dead := y.dead, retired := y.retired, retiredAt := y.retiredAt } (.int .i64 y.retiredAt) (by decide) rfl
  have g4 := get_set_same (y := { x with key := y.key, value := y.value, dead := y.dead, retired := y.retired, retiredAt := y.retiredAt }) g3
  have a5 := a4.setNode g4 5 { y with holder := x.holder, links := x.links, leads := x.leads } (.bool y.used) (by decide) rfl
  have g5 := get_set_same (y := { y with holder := x.holder, links := x.links, leads := x.leads }) g4
  have a6 := a5.setNode g5 6 { y with links := x.links, leads := x.leads } (.int .i64 y.holder) (by decide) rfl
  have g6 := get_set_same (y := { y with links := x.links, leads := x.leads }) g5
  have a7 := a6.setNode g6 7 { y with leads := x.leads } (.int .i64 y.links) (by decide) rfl
  have g7 := get_set_same (y := { y with leads := x.leads }) g6
  have a8 := a7.setNode g7 8 { y with leads := upd x.leads false (y.leads false) } (.int .i64 (y.leads false)) (by decide) rfl
  have g8 := get_set_same (y := { y with leads := upd x.leads false (y.leads false) }) g7
  have a9 := a8.setNode g8 9 y (.int .i64 (y.leads true)) (by decide) rfl
  simpa [List.set_set] using a9
end

end Go.Proofs.Ytfccelbmacjifaa
