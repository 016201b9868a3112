import Derived.Test.YtjadidjpfdjacaaRows
import Derived.Test.YtjadidjpfdjacaaKit
namespace Go.Proofs.Ytjadidjpfdjacaa
open Go.RowKit

/-- A node of the program's memory. -/
structure PNode where
  key : Int
  value : Int
  next : Int
  dead : Bool
  retired : Bool
  retiredAt : Int
  used : Bool
  holder : Int
def PNode.cells (n : PNode) : List Value :=
  [.int .i64 n.key, .int .i64 n.value, .int .i64 n.next, .bool n.dead, .bool n.retired, .int .i64 n.retiredAt, .bool n.used, .int .i64 n.holder]
theorem PNode.cells_len (n : PNode) : n.cells.length = 8 := rfl
theorem PNode.cells_one (n : PNode) : ∀ u ∈ n.cells, u.oneCell' = true := by
  intro u hu; simp only [PNode.cells, List.mem_cons, List.not_mem_nil, or_false] at hu
  rcases hu with rfl | rfl | rfl | rfl | rfl | rfl | rfl | rfl <;> rfl
def PNode.zero : PNode := ⟨0, 0, 0, false, false, 0, false, 0⟩

/-- An entry of the program's memory. -/
structure PEntry where
  used : Bool
  pending : Bool
  src : Int
  dst : Int
  stamp : Int
def PEntry.cells (e : PEntry) : List Value := [.bool e.used, .bool e.pending, .int .i64 e.src, .int .i64 e.dst, .int .i64 e.stamp]
theorem PEntry.cells_len (e : PEntry) : e.cells.length = 5 := rfl
theorem PEntry.cells_one (n : PEntry) : ∀ u ∈ n.cells, u.oneCell' = true := by
  intro u hu; simp only [PEntry.cells, List.mem_cons, List.not_mem_nil, or_false] at hu
  rcases hu with rfl | rfl | rfl | rfl | rfl <;> rfl
def PEntry.zero : PEntry := ⟨false, false, 0, 0, 0⟩

/-- The memory's block m: the nodes in block nb, the entries in block eb. -/
structure MemAt (w : World) (m nb ncap eb ecap : Nat) (ns : List PNode) (es : List PEntry) : Prop where
  hd : At w m [.slice (some ⟨nb, 0, none⟩) ns.length ncap, .slice (some ⟨eb, 0, none⟩) es.length ecap] 157
  nodes : w.ownsRow 0 159 8 (.slice (some ⟨nb, 0, none⟩) ns.length ncap) ns.length (ns.flatMap PNode.cells)
  ents : w.ownsRow 0 161 5 (.slice (some ⟨eb, 0, none⟩) es.length ecap) es.length (es.flatMap PEntry.cells)
  nsmall : ns.length ≤ 66
  esmall : es.length ≤ 256

section
variable {w : World} {m nb ncap eb ecap : Nat} {ns : List PNode} {es : List PEntry}
theorem MemAt.node (h : MemAt w m nb ncap eb ecap ns es) {i : Nat} {x : PNode} (hx : ns[i]? = some x) {j : Nat} {u : Value} (hu : x.cells[j]? = some u) : w.cell? ⟨nb, i * 8 + j, none⟩ = some u := by
  have hj : j < 8 := by have := (List.getElem?_eq_some_iff.1 hu).1; simpa [PNode.cells_len] using this
  exact ownsRow_cell h.nodes ((tab_get PNode.cells 8 PNode.cells_len ns i j x hx hj).trans hu)
theorem MemAt.ent (h : MemAt w m nb ncap eb ecap ns es) {i : Nat} {x : PEntry} (hx : es[i]? = some x) {j : Nat} {u : Value} (hu : x.cells[j]? = some u) : w.cell? ⟨eb, i * 5 + j, none⟩ = some u := by
  have hj : j < 5 := by have := (List.getElem?_eq_some_iff.1 hu).1; simpa [PEntry.cells_len] using this
  exact ownsRow_cell h.ents ((tab_get PEntry.cells 5 PEntry.cells_len es i j x hx hj).trans hu)
theorem MemAt.apart (h : MemAt w m nb ncap eb ecap ns es) : m ≠ nb ∧ m ≠ eb ∧ nb ≠ eb := by
  have h1 := h.hd.ne_row h.nodes (by decide)
  have h2 := h.hd.ne_row h.ents (by decide)
  have h3 := ownsRow_ne h.nodes h.ents (by decide)
  simp [Value.ownBlock] at h1 h2 h3
  exact ⟨fun e => h1 e.symm, fun e => h2 e.symm, h3⟩
theorem MemAt.drew (h : MemAt w m nb ncap eb ecap ns es) : MemAt w.drew m nb ncap eb ecap ns es := ⟨h.hd, h.nodes, h.ents, h.nsmall, h.esmall⟩
theorem MemAt.fr {S : Nat → Prop} {w' : World} (h : MemAt w m nb ncap eb ecap ns es) (hf : Fr S w w') (hm : ¬ S m) (hn : ¬ S nb) (he : ¬ S eb) : MemAt w' m nb ncap eb ecap ns es :=
  ⟨hf.at h.hd hm, hf.owns h.nodes (fun k hk => by simp [Value.ownBlock] at hk; subst hk; exact hn), hf.owns h.ents (fun k hk => by simp [Value.ownBlock] at hk; subst hk; exact he), h.nsmall, h.esmall⟩
theorem MemAt.setEnt (h : MemAt w m nb ncap eb ecap ns es) {i : Nat} {x : PEntry} (hx : es[i]? = some x) (j : Nat) (y : PEntry) (u : Value) (hj : j < 5) (hs : x.cells.set j u = y.cells) :
    MemAt (w.setCell ⟨eb, i * 5 + j, none⟩ u) m nb ncap eb ecap ns (es.set i y) := by
  obtain ⟨h1, h2, h3⟩ := h.apart
  have hl : (es.set i y).length = es.length := by simp
  refine ⟨by rw [hl]; exact h.hd.setOther _ h2 _, ownsRow_setOther h.nodes (by simpa [Value.ownBlock] using h3) _, ?_, h.nsmall, by rw [hl]; exact h.esmall⟩
  rw [hl, ← tab_set PEntry.cells 5 PEntry.cells_len es i j x y u hx hj hs]
  exact ownsRow_set h.ents _ _
theorem MemAt.setNode (h : MemAt w m nb ncap eb ecap ns es) {i : Nat} {x : PNode} (hx : ns[i]? = some x) (j : Nat) (y : PNode) (u : Value) (hj : j < 8) (hs : x.cells.set j u = y.cells) :
    MemAt (w.setCell ⟨nb, i * 8 + j, none⟩ u) m nb ncap eb ecap (ns.set i y) es := by
  obtain ⟨h1, h2, h3⟩ := h.apart
  have hl : (ns.set i y).length = ns.length := by simp
  refine ⟨by rw [hl]; exact h.hd.setOther _ h1 _, ?_, ownsRow_setOther h.ents (by simpa [Value.ownBlock] using h3.symm) _, by rw [hl]; exact h.nsmall, h.esmall⟩
  rw [hl, ← tab_set PNode.cells 8 PNode.cells_len ns i j x y u hx hj hs]
  exact ownsRow_set h.nodes _ _
theorem get_set_same {α : Type} {l : List α} {i : Nat} {x y : α} (hx : l[i]? = some x) : (l.set i y)[i]? = some y := by
  have := (List.getElem?_eq_some_iff.1 hx).1
  simp [this]
/-- A whole entry is written. -/
theorem MemAt.putEnt (h : MemAt w m nb ncap eb ecap ns es) {i : Nat} {x : PEntry} (hx : es[i]? = some x) (y : PEntry) :
    MemAt (((((w.setCell ⟨eb, i * 5, none⟩ (.bool y.used)).setCell ⟨eb, i * 5 + 1, none⟩ (.bool y.pending)).setCell ⟨eb, i * 5 + 2, none⟩ (.int .i64 y.src)).setCell ⟨eb, i * 5 + 3, none⟩ (.int .i64 y.dst)).setCell
      ⟨eb, i * 5 + 4, none⟩ (.int .i64 y.stamp)) m nb ncap eb ecap ns (es.set i y) := by
  have a0 := h.setEnt hx 0 { x with used := y.used } (.bool y.used) (by decide) rfl
  have a1 := a0.setEnt (get_set_same hx) 1 { x with used := y.used, pending := y.pending } (.bool y.pending) (by decide) rfl
  have a2 := a1.setEnt (get_set_same (get_set_same hx)) 2 { y with dst := x.dst, stamp := x.stamp } (.int .i64 y.src) (by decide) rfl
  have a3 := a2.setEnt (get_set_same (get_set_same (get_set_same hx))) 3 { y with stamp := x.stamp } (.int .i64 y.dst) (by decide) rfl
  have a4 := a3.setEnt (get_set_same (get_set_same (get_set_same (get_set_same hx)))) 4 y (.int .i64 y.stamp) (by decide) rfl
  simpa [List.set_set] using a4
end

/-- The place of the first that p holds of; else -1. -/
def find {α : Type} (p : α → Bool) : List α → Nat → Int
  | [], _ => -1
  | x :: r, i => if p x then i else find p r (i + 1)
theorem find_skip {α : Type} (p : α → Bool) : ∀ (l : List α) (i k : Nat), k ≤ l.length → (∀ j, j < k → ∀ x, l[j]? = some x → p x = false) → find p l i = find p (l.drop k) (i + k)
  | l, i, 0, _, _ => by simp
  | [], i, k + 1, h, _ => by simp at h
  | x :: r, i, k + 1, h, hp => by
    have h0 := hp 0 (by omega) x rfl
    rw [find, if_neg (by simp [h0]), find_skip p r (i + 1) k (by simpa using h) (fun j hj y hy => hp (j + 1) (by omega) y (by simpa using hy))]
    simp only [List.drop_succ_cons]; congr 1; omega
theorem find_hit {α : Type} (p : α → Bool) (l : List α) (k : Nat) (x : α) (hx : l[k]? = some x) (hp : ∀ j, j < k → ∀ y, l[j]? = some y → p y = false) (h : p x = true) : find p l 0 = k := by
  have hk := (List.getElem?_eq_some_iff.1 hx).1
  rw [find_skip p l 0 k (by omega) hp, List.drop_eq_getElem_cons hk, find, if_pos (by rw [(List.getElem?_eq_some_iff.1 hx).2]; exact h)]
  simp
theorem find_miss {α : Type} (p : α → Bool) (l : List α) (hp : ∀ j, j < l.length → ∀ y, l[j]? = some y → p y = false) : find p l 0 = -1 := by
  rw [find_skip p l 0 l.length (by omega) hp, List.drop_length, find]
end Go.Proofs.Ytjadidjpfdjacaa
