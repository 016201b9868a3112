import Derived.Test.YtfccelbmacjifaaGreatP1
namespace Go.Proofs.YtfccelbmacjifaaGreat

/-! ### Lists up to their order -/
theorem set_perm {α : Type} : ∀ (l : List α) (k : Nat) (x : α), l[k]? = some x → l.Perm (x :: l.eraseIdx k) ∧ ∀ y, (l.set k y).Perm (y :: l.eraseIdx k)
  | [], k, x, h => by simp at h
  | z :: r, 0, x, h => by simp at h; subst h; simp
  | z :: r, k + 1, x, h => by
    simp only [List.getElem?_cons_succ] at h
    obtain ⟨h1, h2⟩ := set_perm r k x h
    refine ⟨?_, fun y => ?_⟩
    · simpa using (h1.cons z).trans (List.Perm.swap _ _ _)
    · simpa using ((h2 y).cons z).trans (List.Perm.swap _ _ _)
/-- A filter before and behind a store. -/
theorem filter_set {α : Type} (p : α → Bool) {l : List α} {k : Nat} {x : α} (h : l[k]? = some x) : ∃ r : List α, (l.filter p).Perm (if p x then x :: r else r) ∧ ∀ y, ((l.set k y).filter p).Perm (if p y then y :: r else r) := by
  obtain ⟨h1, h2⟩ := set_perm l k x h
  refine ⟨(l.eraseIdx k).filter p, ?_, fun y => ?_⟩
  · have := h1.filter p
    rw [List.filter_cons] at this
    exact this
  · have := (h2 y).filter p
    rw [List.filter_cons] at this
    exact this

/-! ### What the entries say of a link -/
def stOf (es : List PEntry) (n : Int) (s : Bool) : List Int := (es.filter (isSt n s)).map PEntry.stamp
def pdOf (es : List PEntry) (n : Int) (s : Bool) : List Int := (es.filter (isPd n s)).map PEntry.dst
/-- What is in the pool is blank. -/
def WfE (es : List PEntry) : Prop := ∀ e ∈ es, e.used = false → e = PEntry.zero
theorem isPd_zero (n : Int) (s : Bool) : isPd n s PEntry.zero = false := by simp [isPd, PEntry.zero]
theorem isSt_zero (n : Int) (s : Bool) : isSt n s PEntry.zero = false := by simp [isSt, PEntry.zero]
theorem isPd_iff {n : Int} {s : Bool} {e : PEntry} : isPd n s e = true ↔ e.pending = true ∧ e.src = n ∧ e.side = s := by simp [isPd]
theorem isSt_iff {n : Int} {s : Bool} {e : PEntry} : isSt n s e = true ↔ e.used = true ∧ e.pending = false ∧ e.src = n ∧ e.side = s := by simp [isSt]
theorem WfE.pd {es : List PEntry} (h : WfE es) {e : PEntry} (he : e ∈ es) (hp : e.pending = true) : e.used = true := by
  cases hu : e.used
  · rw [h e he hu] at hp; simp [PEntry.zero] at hp
  · rfl
theorem mem_set {α : Type} {l : List α} {k : Nat} {y e : α} (h : e ∈ l.set k y) : e = y ∨ e ∈ l := by
  rcases List.mem_or_eq_of_mem_set h with h | h
  · exact .inr h
  · exact .inl h
theorem WfE.set {es : List PEntry} (h : WfE es) {k : Nat} {y : PEntry} (hy : y.used = false → y = PEntry.zero) : WfE (es.set k y) := by
  intro e he hu
  rcases mem_set he with rfl | he
  · exact hy hu
  · exact h e he hu

/-- A list of one. -/
theorem perm_one {α : Type} {l : List α} {x : α} (h : l.Perm [x]) : l = [x] := List.perm_singleton.1 h

section
variable {es : List PEntry} {k : Nat} {e0 : PEntry}
/-- Any store: what a link's stamps and pendings are behind it. -/
theorem stOf_set (h : es[k]? = some e0) (n : Int) (s : Bool) : ∃ r : List Int, (stOf es n s).Perm (if isSt n s e0 then e0.stamp :: r else r) ∧ ∀ y, (stOf (es.set k y) n s).Perm (if isSt n s y then y.stamp :: r else r) := by
  obtain ⟨r, h1, h2⟩ := filter_set (isSt n s) h
  refine ⟨r.map PEntry.stamp, ?_, fun y => ?_⟩
  · have := h1.map PEntry.stamp
    unfold stOf
    split <;> rename_i hc <;> simp [hc] at this <;> simpa using this
  · have := (h2 y).map PEntry.stamp
    unfold stOf
    split <;> rename_i hc <;> simp [hc] at this <;> simpa using this
theorem pdOf_set (h : es[k]? = some e0) (n : Int) (s : Bool) : ∃ r : List Int, (pdOf es n s).Perm (if isPd n s e0 then e0.dst :: r else r) ∧ ∀ y, (pdOf (es.set k y) n s).Perm (if isPd n s y then y.dst :: r else r) := by
  obtain ⟨r, h1, h2⟩ := filter_set (isPd n s) h
  refine ⟨r.map PEntry.dst, ?_, fun y => ?_⟩
  · have := h1.map PEntry.dst
    unfold pdOf
    split <;> rename_i hc <;> simp [hc] at this <;> simpa using this
  · have := (h2 y).map PEntry.dst
    unfold pdOf
    split <;> rename_i hc <;> simp [hc] at this <;> simpa using this
/-- A store at a place of the pool. -/
theorem stOf_new (h : es[k]? = some e0) (h0 : e0 = PEntry.zero) (n : Int) (s : Bool) (y : PEntry) : (stOf (es.set k y) n s).Perm (if isSt n s y then y.stamp :: stOf es n s else stOf es n s) := by
  obtain ⟨r, h1, h2⟩ := stOf_set h n s
  subst h0
  rw [isSt_zero] at h1
  simp at h1
  refine (h2 y).trans ?_
  split
  · exact (h1.symm).cons _
  · exact h1.symm
theorem pdOf_new (h : es[k]? = some e0) (h0 : e0 = PEntry.zero) (n : Int) (s : Bool) (y : PEntry) : (pdOf (es.set k y) n s).Perm (if isPd n s y then y.dst :: pdOf es n s else pdOf es n s) := by
  obtain ⟨r, h1, h2⟩ := pdOf_set h n s
  subst h0
  rw [isPd_zero] at h1
  simp at h1
  refine (h2 y).trans ?_
  split
  · exact (h1.symm).cons _
  · exact h1.symm
end

/-! ### The memory's operations on a link -/
theorem find_some {α : Type} {p : α → Bool} {l : List α} {x : α} (hx : x ∈ l) (hp : p x = true) : ∃ (k : Nat) (y : α), l[k]? = some y ∧ p y = true ∧ find p l 0 = (k : Int) := by
  rcases find_bd p l 0 with ⟨_, h⟩ | ⟨k, y, h1, h2, h3, _⟩
  · rw [h x hx] at hp; cases hp
  · exact ⟨k, y, h1, h2, by simpa using h3⟩
theorem hasEntry_of {M : PMem} {k : Nat} {e : PEntry} (h : M.es[k]? = some e) : M.hasEntry (k : Int) = true := by
  have := (List.getElem?_eq_some_iff.1 h).1
  exact isIn_true (by omega)
theorem hasNode_of {M : PMem} {k : Nat} {e : PNode} (h : M.ns[k]? = some e) : M.hasNode (k : Int) = true := by
  have := (List.getElem?_eq_some_iff.1 h).1
  exact isIn_true (by omega)
theorem node_of {M : PMem} {k : Nat} {e : PNode} (h : M.ns[k]? = some e) : M.node (k : Int) = e := by
  unfold PMem.node; rw [hasNode_of h]; simp [h]
theorem ent_of {M : PMem} {k : Nat} {e : PEntry} (h : M.es[k]? = some e) : M.ent (k : Int) = e := by simp [PMem.ent, h]

/-- Of a list that is not used up. -/
theorem pend_eq {M : PMem} {n : Int} {s : Bool} (to : Int) (hw : WfE M.es) (hf : ∃ e ∈ M.es, e.used = false) (hl : M.hasLink n s = true) :
    ∃ k : Nat, M.es[k]? = some PEntry.zero ∧ M.pend n s to = { M with es := M.es.set k ⟨true, true, n, s, to, 0⟩ } := by
  obtain ⟨e, he, hu⟩ := hf
  obtain ⟨k, y, h1, h2, h3⟩ := find_some (p := fun x : PEntry => !x.used) he (by simp [hu])
  have hy : y = PEntry.zero := hw y (List.mem_of_getElem? h1) (by simpa using h2)
  subst hy
  refine ⟨k, h1, ?_⟩
  have hk : M.freeEntry = (k : Int) := h3
  unfold PMem.pend
  rw [hk, hasEntry_of h1, hl]
  simp [PMem.setE]
/-- The pending entry of a link that has one. -/
theorem pending_eq {M : PMem} {n : Int} {s : Bool} {d : Int} (h : pdOf M.es n s = [d]) : ∃ (k : Nat) (e : PEntry), M.es[k]? = some e ∧ isPd n s e = true ∧ e.dst = d ∧ M.pending n s = (k : Int) := by
  unfold pdOf at h
  cases hf : M.es.filter (isPd n s) with
  | nil => rw [hf] at h; simp at h
  | cons a r =>
    rw [hf] at h
    have ha : a ∈ M.es.filter (isPd n s) := by rw [hf]; exact List.mem_cons_self
    rw [List.mem_filter] at ha
    obtain ⟨k, y, h1, h2, h3⟩ := find_some ha.1 ha.2
    refine ⟨k, y, h1, h2, ?_, h3⟩
    have hy : y ∈ M.es.filter (isPd n s) := List.mem_filter.2 ⟨List.mem_of_getElem? h1, h2⟩
    rw [hf] at hy
    simp at h
    obtain ⟨h4, h5⟩ := h
    subst h5
    simp at hy
    subst hy; exact h4
theorem pending_none {M : PMem} {n : Int} {s : Bool} (h : pdOf M.es n s = []) : M.pending n s = -1 := by
  unfold pdOf at h
  simp at h
  apply find_miss
  intro j hj y hy
  have := h y (List.mem_of_getElem? hy)
  simpa using this
theorem hasEntry_neg {M : PMem} : M.hasEntry (-1) = false := isIn_false (by omega)
theorem unpend_eq {M : PMem} {n : Int} {s : Bool} {d : Int} (h : pdOf M.es n s = [d]) : ∃ (k : Nat) (e : PEntry), M.es[k]? = some e ∧ isPd n s e = true ∧ M.unpend n s = { M with es := M.es.set k PEntry.zero } := by
  obtain ⟨k, e, h1, h2, _, h4⟩ := pending_eq h
  refine ⟨k, e, h1, h2, ?_⟩
  unfold PMem.unpend
  rw [h4, hasEntry_of h1]; simp [PMem.setE]
theorem stamp_eq {M : PMem} {n : Int} {s : Bool} {d : Int} (st : Int) (h : pdOf M.es n s = [d]) :
    ∃ (k : Nat) (e : PEntry), M.es[k]? = some e ∧ isPd n s e = true ∧ e.dst = d ∧ M.stamp n s st = { M with es := M.es.set k { e with pending := false, stamp := st } } := by
  obtain ⟨k, e, h1, h2, h3, h4⟩ := pending_eq h
  refine ⟨k, e, h1, h2, h3, ?_⟩
  unfold PMem.stamp
  rw [h4, hasEntry_of h1, ent_of h1]; simp [PMem.setE]
theorem stamp_none {M : PMem} {n : Int} {s : Bool} (st : Int) (h : pdOf M.es n s = []) : M.stamp n s st = M := by
  unfold PMem.stamp; rw [pending_none h, hasEntry_neg]; simp
theorem lead_eq {M : PMem} {n : Int} {s : Bool} {d : Int} (h : pdOf M.es n s = [d]) (hl : M.hasLink n s = true) : M.lead n s = M.modN n fun x => { x with leads := upd x.leads s d } := by
  obtain ⟨k, e, h1, h2, h3, h4⟩ := pending_eq h
  unfold PMem.lead
  rw [h4, hasEntry_of h1, hl, ent_of h1, h3]; simp
end Go.Proofs.YtfccelbmacjifaaGreat

namespace Go.Proofs.YtfccelbmacjifaaGreat

/-! ### Counting -/
def idxFrom {α : Type} (p : α → Bool) : List α → Nat → List Nat
  | [], _ => []
  | x :: r, i => if p x then i :: idxFrom p r (i + 1) else idxFrom p r (i + 1)
theorem idxFrom_len {α : Type} (p : α → Bool) : ∀ (l : List α) (i : Nat), (idxFrom p l i).length = count p l
  | [], i => rfl
  | x :: r, i => by
    have := idxFrom_len p r (i + 1)
    unfold count at *
    by_cases h : p x = true <;> simp [idxFrom, h, this]
theorem idxFrom_mem {α : Type} (p : α → Bool) : ∀ (l : List α) (i k : Nat), k ∈ idxFrom p l i ↔ ∃ j x, k = i + j ∧ l[j]? = some x ∧ p x = true
  | [], i, k => by simp [idxFrom]
  | y :: r, i, k => by
    have ih := idxFrom_mem p r (i + 1) k
    constructor
    · intro h
      unfold idxFrom at h
      by_cases hp : p y = true
      · rw [if_pos hp] at h
        rcases List.mem_cons.1 h with rfl | h
        · exact ⟨0, y, by simp, by simp, hp⟩
        · obtain ⟨j, x, h1, h2, h3⟩ := ih.1 h
          exact ⟨j + 1, x, by omega, by simpa using h2, h3⟩
      · rw [if_neg hp] at h
        obtain ⟨j, x, h1, h2, h3⟩ := ih.1 h
        exact ⟨j + 1, x, by omega, by simpa using h2, h3⟩
    · rintro ⟨j, x, h1, h2, h3⟩
      unfold idxFrom
      cases j with
      | zero => simp at h2; subst h2; rw [if_pos h3]; simp [h1]
      | succ j =>
        have := ih.2 ⟨j, x, by omega, by simpa using h2, h3⟩
        by_cases hp : p y = true
        · rw [if_pos hp]; exact List.mem_cons_of_mem _ this
        · rw [if_neg hp]; exact this
theorem idxFrom_nodup {α : Type} (p : α → Bool) : ∀ (l : List α) (i : Nat), (idxFrom p l i).Nodup
  | [], i => by simp [idxFrom]
  | y :: r, i => by
    have ih := idxFrom_nodup p r (i + 1)
    unfold idxFrom
    by_cases hp : p y = true
    · rw [if_pos hp, List.nodup_cons]
      refine ⟨?_, ih⟩
      rw [idxFrom_mem]
      rintro ⟨j, x, h1, _⟩
      omega
    · rw [if_neg hp]; exact ih
theorem idxFrom_sum {α : Type} (p : α → Bool) (z : α) (wt : α → Nat) : ∀ (suf pre : List α), ((idxFrom p suf pre.length).map fun i => wt ((pre ++ suf)[i]?.getD z)).sum = (suf.map fun x => if p x then wt x else 0).sum
  | [], pre => by simp [idxFrom]
  | y :: r, pre => by
    have ih := idxFrom_sum p z wt r (pre ++ [y])
    simp only [List.length_append, List.length_cons, List.length_nil, Nat.zero_add, List.append_assoc, List.cons_append, List.nil_append] at ih
    unfold idxFrom
    by_cases hp : p y = true
    · simp [hp, ih]
    · simp [hp, ih]

theorem nodup_perm_of_mem : ∀ (a b : List Nat), a.Nodup → b.Nodup → (∀ x, x ∈ a ↔ x ∈ b) → a.length = b.length := by
  intro a b ha hb h
  have h1 : a.Perm b := (List.perm_ext_iff_of_nodup ha hb).2 h
  exact h1.length_eq

theorem sum_one (K : List Int) (hK : K.Nodup) (n : Int) (hn : n ∈ K) : (K.map fun k => if n == k then 1 else 0).sum = 1 := by
  induction K with
  | nil => simp at hn
  | cons a r ih =>
    rw [List.nodup_cons] at hK
    simp only [List.map_cons, List.sum_cons]
    rcases List.mem_cons.1 hn with rfl | hn
    · have : (r.map fun k => if n == k then 1 else 0).sum = 0 := by
        clear ih hn
        induction r with
        | nil => rfl
        | cons b q ihq =>
          simp only [List.mem_cons, not_or, List.nodup_cons] at hK
          simp only [List.map_cons, List.sum_cons, ihq ⟨hK.1.2, hK.2.2⟩, Nat.add_zero]
          simp [hK.1.1]
      rw [this]; simp
    · have hne : (n == a) = false := by
        rw [beq_eq_false_iff_ne]; rintro rfl; exact hK.1 ‹_›
      rw [ih hK.2 hn, hne]; rfl
theorem count_cons {α : Type} (p : α → Bool) (x : α) (r : List α) : count p (x :: r) = (if p x then 1 else 0) + count p r := by
  unfold count; by_cases h : p x = true <;> simp [h]; omega
theorem sum_add {α : Type} (f g : α → Nat) (K : List α) : (K.map fun k => f k + g k).sum = (K.map f).sum + (K.map g).sum := by
  induction K with
  | nil => rfl
  | cons a r ih => simp only [List.map_cons, List.sum_cons, ih]; omega
theorem sum_zero {α : Type} (K : List α) : (K.map fun _ => 0).sum = 0 := by
  induction K with
  | nil => rfl
  | cons a r ih => simp [ih]
/-- Every entry outside the pool is of one node. -/
theorem count_nodes (K : List Int) (hK : K.Nodup) : ∀ es : List PEntry, (∀ e ∈ es, e.used = true → e.src ∈ K) → count (fun e => e.used) es = (K.map fun n => count (ofNode n) es).sum
  | [], _ => by
    have : (K.map fun n => count (ofNode n) []).sum = 0 := sum_zero K
    rw [this]; rfl
  | e :: r, h => by
    have ih := count_nodes K hK r (fun e' he' => h e' (List.mem_cons_of_mem _ he'))
    simp only [count_cons]
    rw [sum_add, ← ih]
    congr 1
    cases hu : e.used
    · simp only [ofNode, hu, Bool.false_and]
      exact (sum_zero K).symm
    · simp only [ofNode, hu, Bool.true_and]
      exact (sum_one K hK e.src (h e List.mem_cons_self hu)).symm
theorem count_split (n : Int) : ∀ es : List PEntry, (∀ e ∈ es, e.pending = true → e.used = true) →
    count (ofNode n) es = count (isSt n false) es + count (isSt n true) es + count (isPd n false) es + count (isPd n true) es
  | [], _ => rfl
  | e :: r, h => by
    have ih := count_split n r (fun e' he' => h e' (List.mem_cons_of_mem _ he'))
    simp only [count_cons, ih]
    have he := h e List.mem_cons_self
    rcases e with ⟨u, p, sr, sd, d, st⟩
    simp only at he
    cases u <;> cases p <;> cases sd <;> simp [ofNode, isSt, isPd] at he ⊢ <;> split <;> omega
theorem count_not {α : Type} (p : α → Bool) (l : List α) : count (fun x => !p x) l + count p l = l.length := by
  induction l with
  | nil => rfl
  | cons a r ih =>
    simp only [count_cons, List.length_cons]
    cases p a <;> simp <;> omega
theorem count_st (es : List PEntry) (n : Int) (s : Bool) : count (isSt n s) es = (stOf es n s).length := by simp [count, stOf]
theorem count_pd (es : List PEntry) (n : Int) (s : Bool) : count (isPd n s) es = (pdOf es n s).length := by simp [count, pdOf]

/-! ### What lies in the document's pools -/
def liveSp (x : BSpot) : Bool := !x.free
def wtSp (x : BSpot) : Nat := (x.st false).length + (x.st true).length + (x.opn false).toNat + (x.opn true).toNat
theorem b2i_toNat (b : Bool) : b2i b = (b.toNat : Int) := by cases b <;> rfl
theorem roomTo_two (l : List BSpot) (n e : Int) : ∀ k, k ≤ l.length → (roomTo l n e k).2 = e - (((l.take k).map fun x => if liveSp x then wtSp x else 0).sum : Nat)
  | 0, _ => by simp [roomTo]
  | k + 1, h => by
    have ih := roomTo_two l n e k (by omega)
    have hk : k < l.length := by omega
    rw [roomTo, List.getElem?_eq_getElem hk, List.take_succ_eq_append_getElem hk]
    simp only [List.map_append, List.sum_append, List.map_cons, List.map_nil, List.sum_cons, List.sum_nil]
    unfold roomStep
    cases hf : l[k].free
    · simp [ih, liveSp, hf, wtSp, sideRoom, b2i_toNat]; omega
    · simp [ih, liveSp, hf]
theorem roomTo_one (l : List BSpot) (n e : Int) (h0 : ∀ x, l[0]? = some x → x.free = false) (h1 : ∀ x, l[1]? = some x → x.free = false) : ∀ k, k + 2 ≤ l.length → (roomTo l n e (k + 2)).1 = n + 2 - (count liveSp (l.take (k + 2)) : Nat)
  | 0, h => by
    rcases l with _ | ⟨a, _ | ⟨b, r⟩⟩
    · simp at h
    · simp at h
    · have ha := h0 a (by simp)
      have hb := h1 b (by simp)
      simp [roomTo, roomStep, ha, hb, count, liveSp]
  | k + 1, h => by
    have ih := roomTo_one l n e h0 h1 k (by omega)
    have hk : k + 2 < l.length := by omega
    rw [show k + 1 + 2 = (k + 2) + 1 by omega, roomTo, List.getElem?_eq_getElem hk, List.take_succ_eq_append_getElem hk]
    simp only
    have e1 : count liveSp (l.take (k + 2) ++ [l[k + 2]]) = count liveSp (l.take (k + 2)) + if liveSp l[k + 2] then 1 else 0 := by
      unfold count; rw [List.filter_append, List.length_append]; congr 1
      by_cases h : liveSp l[k + 2] = true <;> simp [h]
    rw [e1]
    unfold roomStep
    cases hf : l[k + 2].free
    · simp [ih, liveSp, hf]; omega
    · simp [ih, liveSp, hf]
end Go.Proofs.YtfccelbmacjifaaGreat

namespace Go.Proofs.YtfccelbmacjifaaGreat

/-! ### How the program's memory holds the document's spots -/
def BSt.live (R : BSt) (i : Nat) : Prop := ∃ x, R.spots[i]? = some x ∧ x.free = false
def linksOf (kind : Int) (i : Nat) (x : BSpot) : Nat := if x.leaf then 0 else if kind = 1 ∧ i ≠ 0 then 2 else 1
structure NodeRel (f : Nat → Nat) (kind : Int) (i : Nat) (x : BSpot) (n : PNode) : Prop where
  key : n.key = x.key
  value : n.value = x.value
  dead : n.dead = x.dead
  used : n.used = true
  holder : n.holder = x.owner
  links : n.links = linksOf kind i x
  leads : ∀ s, b2i s < n.links → n.leads s = f (x.now s)
  ret : n.retired = decide (0 ≤ x.out)
  rat : 0 ≤ x.out → n.retiredAt = x.out
/-- Node i of the document lies in place f i of the program's memory. -/
structure Core (f : Nat → Nat) (M : PMem) (R : BSt) : Prop where
  nlen : (M.ns.length : Int) = R.nodes + 2
  elen : (M.es.length : Int) = R.entries
  f0 : f 0 = 0
  f1 : f 1 = 1
  l0 : R.live 0
  l1 : R.live 1
  nd : ∀ i x, R.spots[i]? = some x → x.free = false → ∃ n, M.ns[f i]? = some n ∧ NodeRel f R.kind i x n
  inj : ∀ i j, R.live i → R.live j → f i = f j → i = j
  sur : ∀ (k : Nat) n, M.ns[k]? = some n → n.used = true → ∃ i, R.live i ∧ f i = k
  nz : ∀ n ∈ M.ns, n.used = false → n = PNode.zero
  ez : WfE M.es
  own : ∀ e ∈ M.es, e.used = true → ∃ i x, R.spots[i]? = some x ∧ x.free = false ∧ e.src = (f i : Int) ∧ b2i e.side < linksOf R.kind i x
  st : ∀ i x s, R.spots[i]? = some x → x.free = false → (stOf M.es (f i) s).Perm (x.st s)
  pd : ∀ i x s, R.spots[i]? = some x → x.free = false → (pdOf M.es (f i) s).length = (x.opn s).toNat

section
variable {f : Nat → Nat} {M : PMem} {R : BSt}
theorem live_of {i : Nat} {x : BSpot} (h : R.spots[i]? = some x) (hf : x.free = false) : R.live i := ⟨x, h, hf⟩
theorem BSt.live.lt {i : Nat} (h : R.live i) : i < R.spots.length := by obtain ⟨x, h, _⟩ := h; exact (List.getElem?_eq_some_iff.1 h).1
theorem BSt.live.sp {i : Nat} (h : R.live i) : R.spots[i]? = some (R.sp i) ∧ (R.sp i).free = false := by
  obtain ⟨x, h, hf⟩ := h
  simp [BSt.sp, h, hf]
theorem Core.node (h : Core f M R) {i : Nat} (hi : R.live i) : ∃ n, M.ns[f i]? = some n ∧ M.node (f i) = n ∧ NodeRel f R.kind i (R.sp i) n := by
  obtain ⟨n, h1, h2⟩ := h.nd i _ hi.sp.1 hi.sp.2
  exact ⟨n, h1, node_of h1, h2⟩
theorem mem_live {i : Nat} : i ∈ idxFrom liveSp R.spots 0 ↔ R.live i := by
  rw [idxFrom_mem]
  constructor
  · rintro ⟨j, x, h1, h2, h3⟩
    have : i = j := by omega
    subst this
    exact ⟨x, h2, by simpa [liveSp] using h3⟩
  · rintro ⟨x, h1, h2⟩
    exact ⟨i, x, by omega, h1, by simp [liveSp, h2]⟩
theorem nodup_map_on {α β : Type} (g : α → β) : ∀ l : List α, l.Nodup → (∀ a ∈ l, ∀ b ∈ l, g a = g b → a = b) → (l.map g).Nodup
  | [], _, _ => by simp
  | a :: r, h, hg => by
    rw [List.nodup_cons] at h
    rw [List.map_cons, List.nodup_cons]
    refine ⟨?_, nodup_map_on g r h.2 (fun x hx y hy => hg x (List.mem_cons_of_mem _ hx) y (List.mem_cons_of_mem _ hy))⟩
    intro hm
    obtain ⟨b, hb, hgb⟩ := List.mem_map.1 hm
    have := hg b (List.mem_cons_of_mem _ hb) a List.mem_cons_self hgb
    subst this; exact h.1 hb
/-- The pools hold the same. -/
theorem Core.room (h : Core f M R) : M.room = R.room := by
  have h0 : ∀ x, R.spots[0]? = some x → x.free = false := by
    intro x hx; obtain ⟨y, hy, hf⟩ := h.l0; rw [hx] at hy; obtain rfl := Option.some.inj hy; exact hf
  have h1 : ∀ x, R.spots[1]? = some x → x.free = false := by
    intro x hx; obtain ⟨y, hy, hf⟩ := h.l1; rw [hx] at hy; obtain rfl := Option.some.inj hy; exact hf
  have hl := h.l1.lt
  have hfn : ((idxFrom liveSp R.spots 0).map f).Nodup := nodup_map_on f _ (idxFrom_nodup _ _ _) (fun a ha b hb => h.inj a b (mem_live.1 ha) (mem_live.1 hb))
  unfold PMem.room BSt.room
  refine Prod.ext ?_ ?_
  · show (count (fun x => !x.used) M.ns : Int) = _
    have e1 := count_not (fun x : PNode => x.used) M.ns
    have e2 : count (fun x : PNode => x.used) M.ns = count liveSp R.spots := by
      rw [← idxFrom_len _ M.ns 0, ← idxFrom_len _ R.spots 0]
      have := nodup_perm_of_mem (idxFrom (fun x : PNode => x.used) M.ns 0) ((idxFrom liveSp R.spots 0).map f) (idxFrom_nodup _ _ _) hfn (by
        intro k
        rw [idxFrom_mem, List.mem_map]
        constructor
        · rintro ⟨j, n, h2, h3, h4⟩
          obtain ⟨i, h5, h6⟩ := h.sur j n h3 h4
          exact ⟨i, mem_live.2 h5, by omega⟩
        · rintro ⟨i, h2, h3⟩
          obtain ⟨n, h4, _, h5⟩ := h.node (mem_live.1 h2)
          exact ⟨f i, n, by omega, h4, h5.used⟩)
      simpa using this
    obtain ⟨q, hq⟩ : ∃ q, R.spots.length = q + 2 := ⟨R.spots.length - 2, by omega⟩
    have e3 := roomTo_one R.spots R.nodes R.entries h0 h1 q (by omega)
    rw [← hq, List.take_length] at e3
    rw [e3]
    have := h.nlen
    omega
  · show (count (fun x => !x.used) M.es : Int) = _
    have e1 := count_not (fun x : PEntry => x.used) M.es
    have e3 := roomTo_two R.spots R.nodes R.entries R.spots.length (Nat.le_refl _)
    rw [List.take_length] at e3
    rw [e3]
    have hK : ((idxFrom liveSp R.spots 0).map fun i => (f i : Int)).Nodup := nodup_map_on _ _ (idxFrom_nodup _ _ _) (fun a ha b hb e => h.inj a b (mem_live.1 ha) (mem_live.1 hb) (by omega))
    have e2 := count_nodes _ hK M.es (by
      intro e he hu
      obtain ⟨i, x, h2, h3, h4, _⟩ := h.own e he hu
      exact List.mem_map.2 ⟨i, mem_live.2 ⟨x, h2, h3⟩, h4.symm⟩)
    have e4 : (((idxFrom liveSp R.spots 0).map fun i => (f i : Int)).map fun n => count (ofNode n) M.es).sum = (R.spots.map fun x => if liveSp x then wtSp x else 0).sum := by
      rw [← idxFrom_sum liveSp BSpot.zero wtSp R.spots [], List.map_map]
      congr 1
      apply List.map_congr_left
      intro i hi
      obtain ⟨x, hx, hxf⟩ := mem_live.1 hi
      simp only [Function.comp, List.nil_append, hx, Option.getD_some]
      rw [count_split _ _ (fun e he hp => h.ez.pd he hp), count_st, count_st, count_pd, count_pd, h.pd i x false hx hxf, h.pd i x true hx hxf, (h.st i x false hx hxf).length_eq, (h.st i x true hx hxf).length_eq]
      unfold wtSp; omega
    rw [e4] at e2
    have := h.elen
    omega
theorem count_pos {α : Type} (p : α → Bool) (l : List α) (h : 0 < count p l) : ∃ x ∈ l, p x = true := by
  unfold count at h
  cases hf : l.filter p with
  | nil => rw [hf] at h; simp at h
  | cons a r =>
    have : a ∈ l.filter p := by rw [hf]; exact List.mem_cons_self
    rw [List.mem_filter] at this
    exact ⟨a, this.1, this.2⟩
end
end Go.Proofs.YtfccelbmacjifaaGreat

namespace Go.Proofs.YtfccelbmacjifaaGreat

section
variable {f : Nat → Nat} {M : PMem} {R R' : BSt}
theorem Core.congr (h : Core f M R) (e1 : R'.spots = R.spots) (e2 : R'.kind = R.kind) (e3 : R'.nodes = R.nodes) (e4 : R'.entries = R.entries) : Core f M R' := by
  have hl : ∀ i, R'.live i ↔ R.live i := by intro i; unfold BSt.live; rw [e1]
  exact ⟨by rw [e3]; exact h.nlen, by rw [e4]; exact h.elen, h.f0, h.f1, (hl 0).2 h.l0, (hl 1).2 h.l1, by rw [e1, e2]; exact h.nd, fun i j hi hj => h.inj i j ((hl i).1 hi) ((hl j).1 hj),
    fun k n hk hn => by obtain ⟨i, h1, h2⟩ := h.sur k n hk hn; exact ⟨i, (hl i).2 h1, h2⟩, h.nz, h.ez, by rw [e1, e2]; exact h.own, by rw [e1]; exact h.st, by rw [e1]; exact h.pd⟩

theorem modify_get {α : Type} (l : List α) (k i : Nat) (g : α → α) : (l.modify k g)[i]? = (l[i]?).map (fun x => if i = k then g x else x) := by
  rw [List.getElem?_modify]
  by_cases h : k = i
  · subst h; cases l[k]? <;> simp
  · have : ¬ i = k := fun e => h e.symm
    cases l[i]? <;> simp [h, this]
theorem mapSp_get (R : BSt) (p i : Nat) (g : BSpot → BSpot) : (R.mapSp p g).spots[i]? = (R.spots[i]?).map (fun x => if i = p then g x else x) := modify_get _ _ _ _
theorem mapSp_live {p : Nat} {g : BSpot → BSpot} (hg : ∀ x, (g x).free = x.free) (i : Nat) : (R.mapSp p g).live i ↔ R.live i := by
  unfold BSt.live
  rw [mapSp_get]
  constructor
  · rintro ⟨x, h1, h2⟩
    cases hx : R.spots[i]? with
    | none => rw [hx] at h1; simp at h1
    | some y =>
      rw [hx] at h1; simp at h1
      refine ⟨y, rfl, ?_⟩
      rw [← h1] at h2
      split at h2
      · rw [hg] at h2; exact h2
      · exact h2
  · rintro ⟨x, h1, h2⟩
    refine ⟨if i = p then g x else x, by simp [h1], ?_⟩
    split
    · rw [hg]; exact h2
    · exact h2

/-- The memory's entries stand; every node may turn, each with its spot. -/
theorem Core.turnNodes (h : Core f M R) (g : Nat → BSpot → BSpot) (u : Nat → PNode → PNode) (R' : BSt) (M' : PMem)
    (hk : R'.kind = R.kind) (h1 : R'.nodes = R.nodes) (h2 : R'.entries = R.entries)
    (hs : ∀ i, R'.spots[i]? = (R.spots[i]?).map (g i)) (hm : ∀ k : Nat, M'.ns[k]? = (M.ns[k]?).map (u k)) (he : M'.es = M.es)
    (hfree : ∀ i x, (g i x).free = x.free) (hleaf : ∀ i x, (g i x).leaf = x.leaf) (hst : ∀ i x, (g i x).st = x.st) (hop : ∀ i x, (g i x).opn = x.opn)
    (hu : ∀ k n, (u k n).used = n.used) (hz : ∀ k, u k PNode.zero = PNode.zero)
    (hr : ∀ i x n, R.spots[i]? = some x → x.free = false → NodeRel f R.kind i x n → NodeRel f R.kind i (g i x) (u (f i) n)) : Core f M' R' := by
  have hl : ∀ i, R'.live i ↔ R.live i := by
    intro i; unfold BSt.live; rw [hs]
    constructor
    · rintro ⟨x, h1, h2⟩
      cases hx : R.spots[i]? with
      | none => rw [hx] at h1; simp at h1
      | some y => rw [hx] at h1; simp at h1; subst h1; exact ⟨y, rfl, by rw [hfree] at h2; exact h2⟩
    · rintro ⟨x, h1, h2⟩
      exact ⟨g i x, by simp [h1], by rw [hfree]; exact h2⟩
  have hx : ∀ i x', R'.spots[i]? = some x' → x'.free = false → ∃ x, R.spots[i]? = some x ∧ x.free = false ∧ x' = g i x := by
    intro i x' h1 h2
    rw [hs] at h1
    cases hx : R.spots[i]? with
    | none => rw [hx] at h1; simp at h1
    | some y => rw [hx] at h1; simp at h1; subst h1; exact ⟨y, rfl, by rw [hfree] at h2; exact h2, rfl⟩
  have hlen : M'.ns.length = M.ns.length := by
    rcases Nat.lt_trichotomy M'.ns.length M.ns.length with h3 | h3 | h3
    · have := hm M'.ns.length
      rw [List.getElem?_eq_none (Nat.le_refl _), List.getElem?_eq_getElem h3] at this
      simp at this
    · exact h3
    · have := hm M.ns.length
      rw [List.getElem?_eq_none (Nat.le_refl _), List.getElem?_eq_getElem h3] at this
      simp at this
  refine ⟨by rw [hlen, h1]; exact h.nlen, by rw [he, h2]; exact h.elen, h.f0, h.f1, (hl 0).2 h.l0, (hl 1).2 h.l1, ?_, fun i j hi hj => h.inj i j ((hl i).1 hi) ((hl j).1 hj), ?_, ?_, by rw [he]; exact h.ez, ?_, ?_, ?_⟩
  · intro i x' h3 h4
    obtain ⟨x, h5, h6, rfl⟩ := hx i x' h3 h4
    obtain ⟨n, h7, h8⟩ := h.nd i x h5 h6
    exact ⟨u (f i) n, by rw [hm, h7]; rfl, by rw [hk]; exact hr i x n h5 h6 h8⟩
  · intro k n' h3 h4
    rw [hm] at h3
    cases hn : M.ns[k]? with
    | none => rw [hn] at h3; simp at h3
    | some n =>
      rw [hn] at h3; simp at h3; subst h3
      rw [hu] at h4
      obtain ⟨i, h5, h6⟩ := h.sur k n hn h4
      exact ⟨i, (hl i).2 h5, h6⟩
  · intro n' h3 h4
    obtain ⟨k, hk⟩ := List.getElem?_of_mem h3
    rw [hm] at hk
    cases hn : M.ns[k]? with
    | none => rw [hn] at hk; simp at hk
    | some n =>
      rw [hn] at hk; simp at hk; subst hk
      rw [hu] at h4
      rw [h.nz n (List.mem_of_getElem? hn) h4, hz]
  · intro e h3 h4
    rw [he] at h3
    obtain ⟨i, x, h5, h6, h7, h8⟩ := h.own e h3 h4
    exact ⟨i, g i x, by rw [hs, h5]; rfl, by rw [hfree]; exact h6, h7, by unfold linksOf at *; rw [hleaf, hk]; exact h8⟩
  · intro i x' s h3 h4
    obtain ⟨x, h5, h6, rfl⟩ := hx i x' h3 h4
    rw [he, hst]; exact h.st i x s h5 h6
  · intro i x' s h3 h4
    obtain ⟨x, h5, h6, rfl⟩ := hx i x' h3 h4
    rw [he, hop]; exact h.pd i x s h5 h6

/-- One node turns, with its spot. -/
theorem Core.modNode (h : Core f M R) {p : Nat} (hp : R.live p) (g : BSpot → BSpot) (u : PNode → PNode)
    (hfree : ∀ x, (g x).free = x.free) (hleaf : ∀ x, (g x).leaf = x.leaf) (hst : ∀ x, (g x).st = x.st) (hop : ∀ x, (g x).opn = x.opn)
    (hu : ∀ n, (u n).used = n.used)
    (hr : ∀ n, NodeRel f R.kind p (R.sp p) n → NodeRel f R.kind p (g (R.sp p)) (u n)) : Core f (M.modN (f p) u) (R.mapSp p g) := by
  obtain ⟨n, hn, hnn, hrel⟩ := h.node hp
  have hh := hasNode_of hn
  have e : M.modN (f p) u = { M with ns := M.ns.modify (f p) u } := by
    unfold PMem.modN; rw [hh]; simp
  refine h.turnNodes (fun i x => if i = p then g x else x) (fun k n => if k = f p ∧ n.used = true then u n else n) _ _ rfl rfl rfl (fun i => mapSp_get R p i g) ?_ (by rw [e]) ?_ ?_ ?_ ?_ ?_ ?_ ?_
  · intro k
    rw [e]
    show (M.ns.modify (f p) u)[k]? = _
    rw [modify_get]
    cases hk : M.ns[k]? with
    | none => rfl
    | some m =>
      simp only [Option.map_some]
      by_cases hkp : k = f p
      · subst hkp
        rw [hn] at hk; obtain rfl := Option.some.inj hk
        simp [hrel.used]
      · simp [hkp]
  · intro i x; split
    · exact hfree x
    · rfl
  · intro i x; split
    · exact hleaf x
    · rfl
  · intro i x; split
    · exact hst x
    · rfl
  · intro i x; split
    · exact hop x
    · rfl
  · intro k n; split
    · exact hu n
    · rfl
  · intro k; simp [PNode.zero]
  · intro i x m hx hxf hm
    by_cases hip : i = p
    · subst hip
      have : x = R.sp i := by rw [hp.sp.1] at hx; exact (Option.some.inj hx).symm
      subst this
      simp only [hm.used, and_self]
      exact hr m hm
    · have hne : ¬ f i = f p := fun e => hip (h.inj i p ⟨x, hx, hxf⟩ hp e)
      simp [hip, hne]
      exact hm

/-- The locks of a thread go back. -/
theorem unown_get (R : BSt) : ∀ (l : List Nat) (i : Nat), (R.unown l).spots[i]? = (R.spots[i]?).map (fun x => if i ∈ l then { x with owner := -1 } else x)
  | [], i => by simp [BSt.unown]
  | k :: r, i => by
    rw [BSt.unown, unown_get _ r i, mapSp_get]
    cases R.spots[i]? with
    | none => rfl
    | some x =>
      simp only [Option.map_some, List.mem_cons]
      by_cases h1 : i = k <;> by_cases h2 : i ∈ r <;> simp [h1, h2]
theorem unown_same (R : BSt) : ∀ l : List Nat, (R.unown l).kind = R.kind ∧ (R.unown l).nodes = R.nodes ∧ (R.unown l).entries = R.entries ∧ (R.unown l).clock = R.clock ∧ (R.unown l).limit = R.limit ∧ (R.unown l).ts = R.ts ∧ (R.unown l).log = R.log ∧ (R.unown l).round = R.round ∧ (R.unown l).threads = R.threads
  | [] => by simp [BSt.unown]
  | k :: r => by
    have := unown_same (R.mapSp k fun x => { x with owner := -1 }) r
    simpa [BSt.unown, BSt.mapSp] using this
theorem Core.unlock (h : Core f M R) {t : Nat} {l : List Nat} (hl : ∀ i x, R.spots[i]? = some x → x.free = false → (x.owner = (t : Int) ↔ i ∈ l)) : Core f (M.unlock t) (R.unown l) := by
  obtain ⟨e1, e2, e3, _⟩ := unown_same R l
  refine h.turnNodes (fun i x => if i ∈ l then { x with owner := -1 } else x) (fun _ => unlocked t) _ _ e1 e2 e3 (unown_get R l) (by intro k; simp [PMem.unlock]) rfl ?_ ?_ ?_ ?_ ?_ ?_ ?_
  · intro i x; split <;> rfl
  · intro i x; split <;> rfl
  · intro i x; split <;> rfl
  · intro i x; split <;> rfl
  · intro k n; simp only [unlocked]; split <;> rfl
  · intro k; simp [unlocked, PNode.zero]
  · intro i x n hx hxf hn
    have := hl i x hx hxf
    by_cases hi : i ∈ l
    · have ho := this.2 hi
      have hh : n.holder = (t : Int) := hn.holder.trans ho
      simp only [if_pos hi, unlocked, hn.used, hh]
      simp
      exact ⟨hn.key, hn.value, hn.dead, rfl, rfl, hn.links, hn.leads, hn.ret, hn.rat⟩
    · have ho : ¬ x.owner = (t : Int) := fun e => hi (this.1 e)
      have hh : ¬ n.holder = (t : Int) := by rw [hn.holder]; exact ho
      simp only [if_neg hi, unlocked, hn.used]
      simp [hh]
      exact hn
end
end Go.Proofs.YtfccelbmacjifaaGreat

