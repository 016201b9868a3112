import Derived.WalkKit
import Derived.Deep.QuietTactic
import Derived.BigQuiet
namespace Go.Proofs.YtfccelbmacjifaaGreat
open Go.RowKit

/-- Block b holds the cells c, of elements of type e; none of them is frozen. -/
def At (w : World) (b : Nat) (c : List Value) (e : TypeId) : Prop := w.heap[b]? = some (.cells c.toArray e (0, 0))

theorem At.cell {w : World} {b : Nat} {c : List Value} {e : TypeId} (h : At w b c e) : ∀ o, w.cell? ⟨b, o, none⟩ = c[o]? := by
  intro o; unfold At at h; simp [World.cell?, h]
theorem At.frozen {w : World} {b : Nat} {c : List Value} {e : TypeId} (h : At w b c e) : ∀ o, w.frozen? ⟨b, o, none⟩ = false := by
  intro o; unfold At at h; simp [World.frozen?, h]
theorem At.lt {w : World} {b : Nat} {c : List Value} {e : TypeId} (h : At w b c e) : b < w.heap.size := by
  unfold At at h; exact (Array.getElem?_eq_some_iff.1 h).1
theorem At.drew {w : World} {b : Nat} {c : List Value} {e : TypeId} (h : At w b c e) : At w.drew b c e := h
theorem At.alloc {w : World} {b : Nat} {c : List Value} {e : TypeId} (h : At w b c e) (o : Obj) : At (w.alloc o) b c e := by
  have := h.lt
  unfold At at *; rw [Below.heap_alloc w o b this]; exact h
theorem At.new (w : World) (c : List Value) (e : TypeId) : At (w.alloc (.cells c.toArray e)) w.heap.size c e := heap_alloc_new w _
theorem At.set {w : World} {b : Nat} {c : List Value} {e : TypeId} (h : At w b c e) (o : Nat) (v : Value) : At (w.setCell ⟨b, o, none⟩ v) b (c.set o v) e := by
  unfold At at *
  rw [heap_setCell_same w b o _ e v h]
  simp
theorem At.setOther {w : World} {b : Nat} {c : List Value} {e : TypeId} (h : At w b c e) (a : Addr) (hne : b ≠ a.block) (v : Value) : At (w.setCell a v) b c e := by
  unfold At at *; rw [heap_setCell_other w a b v hne]; exact h
/-- Two blocks of different types are two. -/
theorem At.ne {w : World} {b b' : Nat} {c c' : List Value} {e e' : TypeId} (h : At w b c e) (h' : At w b' c' e') (hne : e ≠ e') : b ≠ b' := by
  rintro rfl; unfold At at *; rw [h] at h'; simp at h'; exact hne h'.2
theorem At.inj {w : World} {b : Nat} {c c' : List Value} {e e' : TypeId} (h : At w b c e) (h' : At w b c' e') : c = c' ∧ e = e' := by
  unfold At at *; rw [h] at h'; simp at h'; exact h'

/-- Outside the blocks S nothing that was there has turned; the streams stand. -/
structure Fr (S : Nat → Prop) (w w' : World) : Prop where
  os : w'.os = w.os
  tape : w'.tape = w.tape
  output : w'.output = w.output
  size : w.heap.size ≤ w'.heap.size
  block : ∀ k, k < w.heap.size → ¬ S k → w'.heap[k]? = w.heap[k]?

theorem Fr.refl (S : Nat → Prop) (w : World) : Fr S w w := ⟨rfl, rfl, rfl, Nat.le_refl _, fun _ _ _ => rfl⟩
theorem Fr.trans {S : Nat → Prop} {a b c : World} (h : Fr S a b) (k : Fr S b c) : Fr S a c :=
  ⟨k.os.trans h.os, k.tape.trans h.tape, k.output.trans h.output, Nat.le_trans h.size k.size, fun i hi hS => (k.block i (Nat.lt_of_lt_of_le hi h.size) hS).trans (h.block i hi hS)⟩
theorem Fr.mono {S S' : Nat → Prop} {w w' : World} (h : Fr S w w') (hS : ∀ k, k < w.heap.size → S k → S' k) : Fr S' w w' :=
  ⟨h.os, h.tape, h.output, h.size, fun k hk hn => h.block k hk (fun hs => hn (hS k hk hs))⟩
theorem Fr.drew {S : Nat → Prop} {a w : World} (h : Fr S a w) : Fr S a w.drew := ⟨h.os, h.tape, h.output, h.size, h.block⟩
theorem Fr.alloc {S : Nat → Prop} {a w : World} (h : Fr S a w) (o : Obj) : Fr S a (w.alloc o) :=
  h.trans ⟨rfl, rfl, rfl, by simp, fun k hk _ => Below.heap_alloc _ _ _ hk⟩
theorem Fr.setCell {S : Nat → Prop} {a w : World} (h : Fr S a w) {p : Addr} (hp : S p.block ∨ a.heap.size ≤ p.block) (u : Value) : Fr S a (w.setCell p u) :=
  ⟨h.os, h.tape, h.output, by simpa using h.size, fun k hk hS => by
    rw [heap_setCell_other w p k u (by rintro rfl; rcases hp with hp | hp; exact hS hp; omega)]
    exact h.block k hk hS⟩
theorem Fr.transNew {S T : Nat → Prop} {a b c : World} (h : Fr S a b) (k : Fr T b c) (hn : ∀ i, T i → S i ∨ a.heap.size ≤ i) : Fr S a c :=
  ⟨k.os.trans h.os, k.tape.trans h.tape, k.output.trans h.output, Nat.le_trans h.size k.size, fun i hi hS => (k.block i (Nat.lt_of_lt_of_le hi h.size) (by intro ht; rcases hn i ht with h1 | h1; exact hS h1; omega)).trans (h.block i hi hS)⟩
theorem Fr.set1 {b : Nat} {a w : World} (h : Fr (fun k => k = b) a w) (o : Nat) (u : Value) : Fr (fun k => k = b) a (w.setCell ⟨b, o, none⟩ u) := h.setCell (p := ⟨b, o, none⟩) (Or.inl rfl) u
theorem Fr.setIn {S : Nat → Prop} {b : Nat} {a w : World} (hb : S b) (h : Fr S a w) (o : Nat) (u : Value) : Fr S a (w.setCell ⟨b, o, none⟩ u) := h.setCell (p := ⟨b, o, none⟩) (Or.inl hb) u
theorem Fr.setNew {S : Nat → Prop} {b : Nat} {a w : World} (hb : a.heap.size ≤ b) (h : Fr S a w) (o : Nat) (u : Value) : Fr S a (w.setCell ⟨b, o, none⟩ u) := h.setCell (p := ⟨b, o, none⟩) (Or.inr hb) u
theorem Fr.grown {S : Nat → Prop} {a w w' : World} {row : Option Nat} (h : Fr S a w) (hg : w.grownBy w' row) (hr : ∀ k, row = some k → S k ∨ a.heap.size ≤ k) : Fr S a w' :=
  ⟨hg.os.trans h.os, hg.tape.trans h.tape, hg.output.trans h.output, Nat.le_trans h.size hg.size, fun k hk hS => by
    rw [hg.block k (Nat.lt_of_lt_of_le hk h.size) (fun e => by rcases hr k e.symm with h1 | h1; exact hS h1; omega)]
    exact h.block k hk hS⟩
theorem Fr.at {S : Nat → Prop} {w w' : World} (h : Fr S w w') {b : Nat} {c : List Value} {e : TypeId} (ha : At w b c e) (hS : ¬ S b) : At w' b c e := by
  have := ha.lt
  unfold At at *; rw [h.block b this hS]; exact ha
theorem Fr.owns {S : Nat → Prop} {w w' : World} (h : Fr S w w') {e : TypeId} {size : Nat} {v : Value} {n : Nat} {xs : List Value} (ho : w.ownsRow 0 e size v n xs)
    (hS : ∀ k, v.ownBlock = some k → ¬ S k) : w'.ownsRow 0 e size v n xs := by
  refine ⟨ho.1, ?_⟩
  rcases ho.2 with hn | ⟨g, cap, cur, rfl, hb, hgg, rest⟩
  · exact .inl hn
  · refine .inr ⟨g, cap, cur, rfl, hb, ?_, rest⟩
    rw [h.block g (Array.getElem?_eq_some_iff.1 hgg).1 (hS g rfl)]
    exact hgg
theorem Fr.below {w w' : World} {S : Nat → Prop} (h : Fr S w w') (hS : ∀ k, k < w.heap.size → ¬ S k) : Below w.heap.size w w' :=
  ⟨h.os, h.tape, h.output, h.size, fun k hk => h.block k hk (hS k hk)⟩

/-- A struct's block and an owned row of another element type lie apart. -/
theorem At.ne_row {w : World} {b : Nat} {c : List Value} {e : TypeId} (h : At w b c e) {e' : TypeId} {size : Nat} {v : Value} {n : Nat} {xs : List Value}
    (ho : w.ownsRow 0 e' size v n xs) (hne : e ≠ e') : v.ownBlock ≠ some b := by
  intro hv
  rcases ho.2 with ⟨rfl, _⟩ | ⟨g, cap, cur, rfl, _, hg, _⟩
  · simp [Value.ownBlock] at hv
  · simp [Value.ownBlock] at hv; subst hv
    unfold At at h; rw [h] at hg; simp at hg; exact hne hg.2
theorem ownsRow_ne {w : World} {e e' : TypeId} {size size' : Nat} {v v' : Value} {n n' : Nat} {xs xs' : List Value} (h : w.ownsRow 0 e size v n xs) (h' : w.ownsRow 0 e' size' v' n' xs') (hne : e ≠ e') :
    v.ownBlock = none ∨ v.ownBlock ≠ v'.ownBlock := by
  rcases h.2 with ⟨rfl, _⟩ | ⟨g, cap, cur, rfl, _, hg, _⟩
  · left; rfl
  · right
    rcases h'.2 with ⟨rfl, _⟩ | ⟨g', cap', cur', rfl, _, hg', _⟩
    · simp [Value.ownBlock]
    · simp only [Value.ownBlock]; intro e; obtain rfl := Option.some.inj e; rw [hg] at hg'; simp at hg'; exact hne hg'.2

theorem ownsRow_setOther {w : World} {e : TypeId} {size : Nat} {v : Value} {n : Nat} {xs : List Value} (h : w.ownsRow 0 e size v n xs) {a : Addr} (hne : v.ownBlock ≠ some a.block) (u : Value) : (w.setCell a u).ownsRow 0 e size v n xs := by
  obtain ⟨h1, h2⟩ := h
  refine ⟨h1, ?_⟩
  rcases h2 with h2 | ⟨g, cap, cur, rfl, hg, hh, r⟩
  · exact Or.inl h2
  · exact Or.inr ⟨g, cap, cur, rfl, hg, by rw [heap_setCell_other _ _ _ _ (by intro e; apply hne; simp [Value.ownBlock, e])]; exact hh, r⟩
theorem ownsRow_setOtherB {w : World} {B : Nat} {e : TypeId} {size : Nat} {v : Value} {n : Nat} {xs : List Value} (h : w.ownsRow B e size v n xs) {a : Addr} (hne : v.ownBlock ≠ some a.block) (u : Value) : (w.setCell a u).ownsRow B e size v n xs := by
  obtain ⟨h1, h2⟩ := h
  refine ⟨h1, ?_⟩
  rcases h2 with h2 | ⟨g, cap, cur, rfl, hg, hh, r⟩
  · exact Or.inl h2
  · exact Or.inr ⟨g, cap, cur, rfl, hg, by rw [heap_setCell_other _ _ _ _ (by intro e; apply hne; simp [Value.ownBlock, e])]; exact hh, r⟩
/-- A store into an owned row. -/
theorem ownsRow_set {w : World} {e : TypeId} {size : Nat} {g n cap : Nat} {xs : List Value} (h : w.ownsRow 0 e size (.slice (some ⟨g, 0, none⟩) n cap) n xs) (o : Nat) (u : Value) :
    (w.setCell ⟨g, o, none⟩ u).ownsRow 0 e size (.slice (some ⟨g, 0, none⟩) n cap) n (xs.set o u) := by
  obtain ⟨h1, h2⟩ := h
  refine ⟨by simpa using h1, ?_⟩
  rcases h2 with ⟨h2, _⟩ | ⟨g', cap', cur, hv, hg, hh, h3, h4, h5, h6⟩
  · cases h2
  · simp only [Value.slice.injEq, Option.some.injEq, Addr.mk.injEq, and_true, true_and] at hv
    obtain ⟨rfl, rfl⟩ := hv
    refine .inr ⟨g, cap, cur.setIfInBounds o u, rfl, hg, heap_setCell_same w g o cur e u hh, h3, h4, by simpa using h5, ?_⟩
    rw [Array.toList_setIfInBounds, List.take_set, h6]
theorem ownsRow_cell {w : World} {e : TypeId} {size : Nat} {g n cap : Nat} {xs : List Value} (h : w.ownsRow 0 e size (.slice (some ⟨g, 0, none⟩) n cap) n xs) {o : Nat} {u : Value} (hu : xs[o]? = some u) : w.cell? ⟨g, o, none⟩ = some u := by
  have := h.cells (g := g) rfl o u hu
  simpa [Addr.add_lit] using this
theorem ownsRow_frozen {w : World} {e : TypeId} {size : Nat} {g n cap : Nat} {xs : List Value} (h : w.ownsRow 0 e size (.slice (some ⟨g, 0, none⟩) n cap) n xs) : ∀ o, w.frozen? ⟨g, o, none⟩ = false := by
  intro o
  rcases h.2 with ⟨h2, _⟩ | ⟨g', cap', cur, hv, hg, hh, h3, h4, h5, h6⟩
  · cases h2
  · simp only [Value.slice.injEq, Option.some.injEq, Addr.mk.injEq, and_true, true_and] at hv
    obtain ⟨rfl, rfl⟩ := hv
    simp [World.frozen?, hh]
theorem ownsRow_shape {w : World} {e : TypeId} {size : Nat} {v : Value} {n : Nat} {xs : List Value} (h : w.ownsRow 0 e size v n xs) (hn : n ≠ 0) : ∃ g cap, v = .slice (some ⟨g, 0, none⟩) n cap ∧ n ≤ cap := by
  rcases h.2 with ⟨_, h⟩ | ⟨g, cap, _, h, _, _, h2, _⟩
  · exact absurd h hn
  · exact ⟨g, cap, h, h2⟩

/-- A table: each element in k cells. -/
theorem tab_get {α : Type} (f : α → List Value) (k : Nat) (hk : ∀ x, (f x).length = k) : ∀ (l : List α) (i j : Nat) (x : α), l[i]? = some x → j < k → (l.flatMap f)[i * k + j]? = (f x)[j]?
  | [], i, j, x, h, _ => by simp at h
  | y :: r, 0, j, x, h, hj => by
    simp at h; subst h
    simp only [List.flatMap_cons, Nat.zero_mul, Nat.zero_add]
    rw [List.getElem?_append_left (by rw [hk]; exact hj)]
  | y :: r, i + 1, j, x, h, hj => by
    simp only [List.getElem?_cons_succ] at h
    simp only [List.flatMap_cons]
    rw [List.getElem?_append_right (by rw [hk, Nat.add_mul]; omega), hk, show (i + 1) * k + j - k = i * k + j by rw [Nat.add_mul]; omega]
    exact tab_get f k hk r i j x h hj
theorem tab_set {α : Type} (f : α → List Value) (k : Nat) (hk : ∀ x, (f x).length = k) : ∀ (l : List α) (i j : Nat) (x y : α) (u : Value), l[i]? = some x → j < k → (f x).set j u = f y → (l.flatMap f).set (i * k + j) u = (l.set i y).flatMap f
  | [], i, j, x, y, u, h, _, _ => by simp at h
  | z :: r, 0, j, x, y, u, h, hj, hs => by
    simp at h; subst h
    simp only [List.flatMap_cons, Nat.zero_mul, Nat.zero_add, List.set_cons_zero]
    rw [List.set_append_left _ _ (by rw [hk]; exact hj), hs]
  | z :: r, i + 1, j, x, y, u, h, hj, hs => by
    simp only [List.getElem?_cons_succ] at h
    simp only [List.flatMap_cons, List.set_cons_succ]
    rw [List.set_append_right _ _ (by rw [hk, Nat.add_mul]; omega), hk, show (i + 1) * k + j - k = i * k + j by rw [Nat.add_mul]; omega]
    rw [tab_set f k hk r i j x y u h hj hs]
theorem tab_len {α : Type} (f : α → List Value) (k : Nat) (hk : ∀ x, (f x).length = k) : ∀ l : List α, (l.flatMap f).length = l.length * k
  | [] => by simp
  | y :: r => by simp only [List.flatMap_cons, List.length_append, hk, List.length_cons, tab_len f k hk r, Nat.add_mul]; omega

theorem At.grown {w w' : World} {b : Nat} {c : List Value} {e : TypeId} {row : Option Nat} (h : At w b c e) (hg : w.grownBy w' row) (hne : row ≠ some b) : At w' b c e := by
  have := h.lt
  unfold At at *; rw [hg.block b this (fun e => hne e.symm)]; exact h
theorem At.newAt {w : World} {b : Nat} (hb : b = w.heap.size) (c : List Value) (e : TypeId) : At (w.alloc (.cells c.toArray e)) b c e := by subst hb; exact At.new w c e
theorem ownsRow_base {w : World} {base : Nat} {e : TypeId} {size : Nat} {v : Value} {n : Nat} {xs : List Value} (h : w.ownsRow base e size v n xs) : w.ownsRow 0 e size v n xs := by
  refine ⟨h.1, ?_⟩
  rcases h.2 with h2 | ⟨g, cap, cur, h1, _, h2⟩
  · exact .inl h2
  · exact .inr ⟨g, cap, cur, h1, Nat.zero_le _, h2⟩
theorem ownsRow_alloc {w : World} {base : Nat} {e : TypeId} {size : Nat} {v : Value} {n : Nat} {xs : List Value} (h : w.ownsRow base e size v n xs) (o : Obj) : (w.alloc o).ownsRow base e size v n xs := h.alloc o

/-- 'append' of one element that has just been laid in block b: the slice begins at the head of a row. -/
theorem wpList_push {P : Program} (w : World) {ops : Array Oper} {rest : List Oper} {o : Oper} {a : Act} {Q : Exit → Act → World → Prop} (hgd : o.guard = none) (s x : Operand) (t : TypeId)
    (ho : o.op = .call { callee := .builtin .append, args := #[s, x], argTypes := #[t, t] })
    (base : Nat) (e : TypeId) (i : TypeInfo) (z : Value) (size bytes : Nat) (ht : P.underlying t = some (.slice e)) (hi : P.info? e = some i) (hz : i.zero = some z)
    (hsize : i.size = size) (hby : i.bytes = bytes) (hzs : z.cells.size = size) (hsz : 0 < size)
    (v : Value) (n : Nat) (xs : List Value) (hs : a.eval s = v) (hown : w.ownsRow base e size v n xs)
    (b : Nat) (news : List Value) (hx : a.eval x = .slice (some ⟨b, 0, none⟩) 1 1) (hl : news.length = size) (e' : TypeId) (hnews : At w b news e') (h1 : ∀ u ∈ news, u.oneCell' = true)
    (h63 : n + 1 ≤ maxLen) (hbytes : (n + 1) * bytes ≤ 140737488355328) (hbase : base ≤ w.heap.size)
    (h : ∀ g cap w', w'.ownsRow base e size (.slice (some ⟨g, 0, none⟩) (n + 1) cap) (n + 1) (xs ++ news) → w.grownBy w' v.ownBlock → (v.ownBlock = some g ∨ w.heap.size ≤ g) → wpList P ops Q rest (a.put o.dst (.slice (some ⟨g, 0, none⟩) (n + 1) cap)) w') :
    wpList P ops Q (o :: rest) a w := by
  have hc : ∀ j u, news[j]? = some u → w.cell? ((⟨b, 0, none⟩ : Addr).add j) = some u := by
    intro j u hu; rw [Addr.add_lit, Nat.zero_add, hnews.cell]; exact hu
  have hgrow : ∀ (v' : Value) (w' : World), w'.ownsRow w.heap.size e size v' (n + 1) (xs ++ news) → w.grownBy w' none → wpList P ops Q rest (a.put o.dst v') w' := by
    intro v' w' h2 h3
    rcases h2.2 with ⟨_, h4⟩ | ⟨g, cap, cur, rfl, h5, h6, h7⟩
    · omega
    · exact h g cap w' ⟨h2.1, .inr ⟨g, cap, cur, rfl, by omega, h6, h7⟩⟩ ⟨h3.os, h3.tape, h3.output, h3.size, fun k hk _ => h3.block k hk (by simp)⟩ (.inr h5)
  rcases hown.2 with ⟨hv, hn⟩ | ⟨g, cap, cur, hv, hbg, hcur, hnc, hcm, hcs, htake⟩
  · have hx0 : xs = [] := List.eq_nil_of_length_eq_zero (by rw [hown.1, hn]; simp)
    subst hn
    refine wpList_append_grows w hgd s x t ho e i z size bytes ht hi hz hsize hby hzs hsz none 0 0 xs (by rw [hs, hv]) (fun _ => ⟨rfl, rfl⟩) (by rw [hx0]; simp) (by intro b hb; cases hb) ⟨b, 0, none⟩ 1 1 news hx (by rw [hl, Nat.one_mul]) hc h1 (by omega) h63 hbytes hgrow
  · by_cases hroom : n + 1 ≤ cap
    · subst hv
      refine wpList_append_fits w hgd s x t ho base e i size ht hi hsize g n cap xs hs hown ⟨b, 0, none⟩ 1 1 news hx (by rw [hl, Nat.one_mul]) hc h1 hroom ?_
      intro w' h2 h3
      exact h g cap w' h2 h3 (.inl rfl)
    · subst hv
      refine wpList_append_grows w hgd s x t ho e i z size bytes ht hi hz hsize hby hzs hsz (some ⟨g, 0, none⟩) n cap xs hs (by intro h; cases h) hown.1 ?_ ⟨b, 0, none⟩ 1 1 news hx (by rw [hl, Nat.one_mul]) hc h1 (by omega) h63 hbytes hgrow
      intro b' hb' j u hu
      obtain rfl := Option.some.inj hb'
      exact hown.cells (g := g) rfl j u hu

theorem ret_int {k : IntKind} {a b : Int} (h : a = b) : Ending.returned (.int k a) = .returned (.int k b) := by rw [h]
theorem ret_bool {a b : Bool} (h : a = b) : Ending.returned (.bool a) = .returned (.bool b) := by rw [h]
/-- Between two bounds, both with them. -/
def isIn (n a b : Int) : Bool := decide (a ≤ n ∧ n ≤ b)
theorem isIn_true {n a b : Int} (h : a ≤ n ∧ n ≤ b) : isIn n a b = true := decide_eq_true h
theorem isIn_false {n a b : Int} (h : ¬ (a ≤ n ∧ n ≤ b)) : isIn n a b = false := decide_eq_false h
theorem isIn_iff {n a b : Int} : isIn n a b = true ↔ a ≤ n ∧ n ≤ b := decide_eq_true_iff

theorem ownsRow_lt0 {w : World} {e : TypeId} {size : Nat} {g n cap : Nat} {xs : List Value} (h : w.ownsRow 0 e size (.slice (some ⟨g, 0, none⟩) n cap) n xs) : g < w.heap.size := (h.lt g rfl).2
theorem Fr.drewN {S : Nat → Prop} {a w : World} (h : Fr S a w) (n : Nat) : Fr S a (w.drewN n) := ⟨h.os, h.tape, h.output, h.size, h.block⟩
theorem At.drewN {w : World} {b : Nat} {c : List Value} {e : TypeId} (h : At w b c e) (n : Nat) : At (w.drewN n) b c e := h
end Go.Proofs.YtfccelbmacjifaaGreat

namespace Go.Proofs.YtfccelbmacjifaaGreat

/-- A function of a side, turned at one of them. -/
def upd {α : Type} (f : Bool → α) (s : Bool) (v : α) : Bool → α := fun r => if r = s then v else f r
theorem upd_same {α : Type} (f : Bool → α) (s : Bool) (v : α) : upd f s v s = v := by simp [upd]
def b2i (b : Bool) : Int := if b then 1 else 0
theorem b2i_true : b2i true = 1 := rfl
theorem b2i_false : b2i false = 0 := rfl
theorem b2i_beq (a b : Bool) : (b2i a == b2i b) = (a == b) := by cases a <;> cases b <;> rfl
structure BAns where
  err : Int := 0
  did : Bool := false
  value : Int := 0
  stamp : Int := 0
  spans : List (List (Int × Int)) := []
structure BSpot where
  id : Int
  leaf : Bool
  key : Int
  value : Int
  now : Bool → Nat
  st : Bool → List Int
  opn : Bool → Bool
  dead : Bool
  owner : Int
  out : Int
  free : Bool
structure BMade where
  stamp : Int
  key : Int
  value : Int
  put : Bool
structure BThread where
  okind : Int
  okey : Int
  ovalue : Int
  ospans : List (Int × Int)
  busy : Bool
  has : Bool
  at_ : Nat
  slot : Int
  t : Int
  g : Nat
  gs : Bool
  x : Nat
  xs : Bool
  c : Nat
  want : List Nat
  have_ : Nat
  src : Nat
  side : Bool
  dst : Nat
  new : List Nat
  hid : Int
  hside : Bool
  hkey : Int
  todo : List (Int × Bool)
  found : List (Int × Int)
  ans : BAns
  last : BAns
structure BRound where
  at_ : Nat
  clock : Int
  thread : Nat
  noted : List Int
  gone : List Nat
structure BSt where
  kind : Int
  threads : Int
  nodes : Int
  entries : Int
  limit : Int
  clock : Int
  spots : List BSpot
  log : List BMade
  ts : List BThread
  round : BRound
def BSpot.zero : BSpot := ⟨0, false, 0, 0, fun _ => 0, fun _ => [], fun _ => false, false, 0, 0, false⟩
def BThread.zero : BThread := ⟨0, 0, 0, [], false, false, 0, 0, 0, 0, false, 0, false, 0, [], 0, 0, false, 0, [], 0, false, 0, [], [], {}, {}⟩
def BSt.sp (R : BSt) (i : Nat) : BSpot := R.spots[i]?.getD BSpot.zero
def BSt.th (R : BSt) (i : Nat) : BThread := R.ts[i]?.getD BThread.zero
def BSt.mapSp (R : BSt) (i : Nat) (f : BSpot → BSpot) : BSt := { R with spots := R.spots.modify i f }
def BSt.setTh (R : BSt) (i : Nat) (t : BThread) : BSt := { R with ts := R.ts.set i t }

/-! ### An update's steps -/
def BThread.home (w : BThread) : BThread := { w with at_ := 4, g := 0, gs := false, x := 0, xs := false }
/-- The locks go back: of the first n places of a list. -/
def BSt.unown (R : BSt) : List Nat → BSt
  | [] => R
  | k :: r => (R.mapSp k fun x => { x with owner := -1 }).unown r
def BSt.gives (R : BSt) (i : Nat) (w : BThread) : BSt := (R.unown (w.want.take w.have_)).setTh i { w with have_ := 0 }
def BSt.holds (R : BSt) (w : BThread) : Bool :=
  if (R.sp w.x).dead = true ∨ (R.sp w.x).now w.xs ≠ w.c then false
  else if R.kind = 0 then !(R.sp w.c).dead
  else if w.want.length = 1 then true
  else !(R.sp w.g).dead && decide ((R.sp w.g).now w.gs = w.x)

/-! ### What lies in the pools -/
def sideRoom (x : BSpot) (e : Int) : Nat → Int
  | 0 => e
  | 1 => e - (x.st false).length - b2i (x.opn false)
  | _ => e - (x.st false).length - b2i (x.opn false) - (x.st true).length - b2i (x.opn true)
def roomStep (i : Nat) (x : BSpot) (p : Int × Int) : Int × Int :=
  if x.free then p else ((if 1 < i then p.1 - 1 else p.1), sideRoom x p.2 2)
def roomTo (l : List BSpot) (n e : Int) : Nat → Int × Int
  | 0 => (n, e)
  | k + 1 => match l[k]? with
    | some x => roomStep k x (roomTo l n e k)
    | none => roomTo l n e k
def BSt.room (R : BSt) : Int × Int := roomTo R.spots R.nodes R.entries R.spots.length

/-- A new spot (its place is the length so far). -/
def BSt.push (R : BSt) (x : BSpot) : BSt := { R with spots := R.spots ++ [x] }
def leafOf (key value : Int) : BSpot := ⟨-1, true, key, value, fun _ => 0, fun _ => [], fun _ => false, false, -1, -1, false⟩
def nodeOf (key value : Int) (c : Nat) : BSpot := ⟨-1, false, key, value, upd (fun _ => 1) false c, fun _ => [], upd (fun _ => false) false true, false, -1, -1, false⟩
def innerOf (key : Int) (a b : Nat) : BSpot := ⟨-1, false, key, 0, upd (fun _ => b) false a, fun _ => [], fun _ => true, false, -1, -1, false⟩
/-- The nodes that an Insert makes, in a list. -/
def BSt.grownL (R : BSt) (i : Nat) (w : BThread) : BSt :=
  (R.push (nodeOf w.okey w.ovalue w.c)).setTh i { w with new := [R.spots.length], dst := R.spots.length }
def BSt.grownT (R : BSt) (i : Nat) (w : BThread) : BSt :=
  let k := R.spots.length
  let m := if w.okey > (R.sp w.c).key then innerOf w.okey w.c k else innerOf (R.sp w.c).key k w.c
  ((R.push (leafOf w.okey w.ovalue)).push m).setTh i { w with new := [k, k + 1], dst := k + 1 }
def BSt.needs (R : BSt) (w : BThread) : Int × Int := if w.okind = 1 then (if R.kind = 1 then (2, 3) else (1, 2)) else (0, 1)
def BSt.prepares (R : BSt) (i : Nat) (w : BThread) : BSt :=
  if R.room.1 < (R.needs w).1 ∨ R.room.2 < (R.needs w).2 then R.setTh i { w with ans := { err := 7 }, at_ := 12 }
  else
    let w1 := { w with at_ := 8, src := w.x, side := w.xs }
    if w.okind = 1 then
      (if R.kind = 1 then R.grownT i w1 else R.grownL i w1).mapSp w.x fun x => { x with opn := upd x.opn w.xs true }
    else if R.kind = 0 then
      (R.setTh i { w1 with dst := (R.sp w.c).now false }).mapSp w.x fun x => { x with opn := upd x.opn w.xs true }
    else
      (R.setTh i { w1 with src := w.g, side := w.gs, dst := (R.sp w.x).now (!w.xs) }).mapSp w.g fun x => { x with opn := upd x.opn w.gs true }
def BSt.unmake (R : BSt) : List Nat → BSt
  | [] => R
  | k :: r => (R.mapSp k fun x => { x with free := true }).unmake r
def stampOf (c : Int) (x : BSpot) : BSpot :=
  { x with id := c, opn := fun _ => false, st := fun s => if x.opn s then [c] else x.st s }
def BSt.restamp (R : BSt) (c : Int) : List Nat → BSt
  | [] => R
  | k :: r => (R.mapSp k (stampOf c)).restamp c r
def BSt.takes (R : BSt) (i : Nat) (w : BThread) : BSt :=
  if R.clock = R.limit then
    ((R.unmake w.new).mapSp w.src fun x => { x with opn := upd x.opn w.side false }).setTh i { w with ans := { err := 8 }, at_ := 12 }
  else
    (({ R with clock := R.clock + 1, log := R.log ++ [⟨R.clock + 1, w.okey, w.ovalue, decide (w.okind = 1)⟩] } : BSt).restamp (R.clock + 1) w.new).setTh i
      { w with ans := { w.ans with did := true, stamp := R.clock + 1 }, at_ := if w.okind = 1 then 10 else 9 }
/-- Steps 6 to 12. -/
def BSt.turns (R : BSt) (i : Nat) (w : BThread) : BSt :=
  match w.at_ with
  | 6 =>
    if R.holds w then
      R.setTh i (if decide ((R.sp w.c).key = w.okey) = decide (w.okind = 1) then { w with ans := { w.ans with stamp := R.clock }, at_ := 12 } else { w with at_ := 7 })
    else (R.gives i w).setTh i ({ w with have_ := 0 } : BThread).home
  | 7 => R.prepares i w
  | 8 => R.takes i w
  | 9 =>
    let R1 := R.mapSp w.c fun x => { x with dead := true }
    (if R.kind = 1 then R1.mapSp w.x fun x => { x with dead := true } else R1).setTh i { w with ans := { w.ans with value := (R.sp w.c).value }, at_ := 10 }
  | 10 => (R.mapSp w.src fun x => { x with now := upd x.now w.side w.dst }).setTh i { w with at_ := 11 }
  | 11 => (R.mapSp w.src fun x => { x with opn := upd x.opn w.side false, st := upd x.st w.side (x.st w.side ++ [w.ans.stamp]) }).setTh i { w with at_ := 12 }
  | 12 =>
    let R1 := R.unown (w.want.take w.have_)
    let R2 := if w.okind = 2 ∧ w.ans.did = true then
        let R3 := R1.mapSp w.c fun x => { x with out := R.clock }
        if R.kind = 1 then R3.mapSp w.x fun x => { x with out := R.clock } else R3
      else R1
    R2.setTh i { w with have_ := 0, at_ := 13 }
  | _ => R

/-! ### A read's steps -/
def BSt.waits (R : BSt) (id : Int) (s : Bool) : Bool :=
  match R.spots.find? (fun x => !x.leaf && decide (x.id = id)) with
  | some x => x.opn s
  | none => false
/-! ### The calls -/
def spansOk : List (Int × Int) → Bool
  | [] => true
  | p :: r => decide (p.1 ≤ p.2) && isIn p.1 0 (2 ^ 40) && isIn p.2 0 (2 ^ 40) && spansOk r
def mayOp (kind key : Int) (spans : List (Int × Int)) : Int :=
  if isIn kind 1 4 then
    if kind < 4 then (if isIn key 0 (2 ^ 40) then 0 else 5)
    else if 1 ≤ spans.length ∧ spans.length ≤ 16 then (if spansOk spans then 0 else 6) else 6
  else 5
def BThread.begun (w : BThread) (kind key value : Int) (spans : List (Int × Int)) : BThread :=
  { BThread.zero with busy := true, at_ := 1, slot := -1, has := w.has, last := w.last, okind := kind, okey := key, ovalue := value, ospans := if kind = 4 then spans else [] }
def BSt.begin (R : BSt) (i kind key value : Int) (spans : List (Int × Int)) : BSt × Int :=
  if isIn i 0 (R.threads - 1) then
    if (R.th i.toNat).busy then (R, 3)
    else if mayOp kind key spans = 0 then (R.setTh i.toNat ((R.th i.toNat).begun kind key value spans), 0) else (R, mayOp kind key spans)
  else (R, 2)
def inSpan (p : Int × Int) (q : Int × Int) : Bool := isIn q.1 p.1 p.2
def spanLists (spans found : List (Int × Int)) : List (List (Int × Int)) := spans.map fun p => found.filter (inSpan p)
def lensOf : List (List (Int × Int)) → Nat
  | [] => 0
  | l :: r => l.length + lensOf r
def BThread.leave (w : BThread) : BThread :=
  let a : BAns := if w.okind = 4 then
      (if lensOf (spanLists w.ospans w.found) > 64 then { err := 9 } else { w.ans with spans := spanLists w.ospans w.found })
    else w.ans
  { w with slot := -1, busy := false, has := true, ans := a, last := a }

/-- A lock that is wanted next: taken, or waited for. -/
def BSt.locks (R : BSt) (i : Nat) (w : BThread) : BSt × Int :=
  let p := w.want[w.have_]?.getD 0
  if 0 ≤ (R.sp p).owner then (R, 2)
  else ((R.mapSp p fun x => { x with owner := i }).setTh i { w with have_ := w.have_ + 1, at_ := if w.have_ + 1 = w.want.length then 6 else w.at_ }, 1)
end Go.Proofs.YtfccelbmacjifaaGreat

