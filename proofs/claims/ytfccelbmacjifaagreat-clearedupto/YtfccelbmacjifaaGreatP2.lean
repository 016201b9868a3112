import Derived.Test.YtfccelbmacjifaaGreatP1
set_option linter.unusedSimpArgs false
namespace Go.Proofs.YtfccelbmacjifaaGreat
theorem count_set_e {α : Type} (p : α → Bool) : ∀ {l : List α} {k : Nat} {x y : α}, l[k]? = some x → p x = true → p y = false → count p l = count p (l.set k y) + 1
  | [], k, x, y, h => by simp at h
  | z :: r, 0, x, y, h => by
    intro hx hy
    simp at h; subst h
    simp [count, hx, hy]
  | z :: r, k + 1, x, y, h => by
    intro hx hy
    simp only [List.getElem?_cons_succ] at h
    have := count_set_e p h hx hy
    simp only [count, List.set_cons_succ, List.filter_cons] at this ⊢
    split <;> simp [this]
theorem count_some {α : Type} {p : α → Bool} {l : List α} (h : 0 < count p l) : ∃ x ∈ l, p x = true := by
  unfold count at h
  obtain ⟨x, hx⟩ := List.exists_mem_of_length_pos h
  rw [List.mem_filter] at hx
  exact ⟨x, hx.1, hx.2⟩
/-- A node out of the pool. -/
theorem make_e {M : PMem} (hw : Wm M) (key value : Int) (hf : 0 < M.room.1) : ∃ n : Int, (M.node n).used = false ∧ M.hasNode n = true ∧ (M.make key value).2 = n ∧ (M.make key value).1.es = M.es ∧ (M.make key value).1.ns.length = M.ns.length ∧ Wm (M.make key value).1 ∧ ∀ x, (M.make key value).1.node x = if x = n then PNode.made key value else M.node x := by
  obtain ⟨e, he, hu⟩ := count_some (l := M.ns) (p := fun x => !x.used) (by unfold PMem.room at hf; simpa using hf)
  obtain ⟨k, y, h1, h2, h3⟩ := found (p := fun x : PNode => !x.used) he hu
  have h4 : M.freeNode = (k : Int) := h3
  obtain ⟨h5, h6⟩ := node_get h1
  have heq : M.make key value = ({ M with ns := M.ns.set k (PNode.made key value) }, (k : Int)) := by
    unfold PMem.make
    rw [h4, if_pos h6]; rfl
  rw [heq]
  have hn : ∀ x, PMem.node { M with ns := M.ns.set k (PNode.made key value) } x = if x = (k : Int) then PNode.made key value else M.node x := by
    intro x
    have := node_modN h6 (fun _ => PNode.made key value) x
    unfold PMem.modN at this
    rw [if_pos h6] at this
    rw [← this]
    congr 2
    apply List.ext_getElem?
    intro j
    rw [List.getElem?_set, List.getElem?_modify]
    by_cases hj : k = j
    · subst hj
      have := (List.getElem?_eq_some_iff.1 h1).1
      simp [this]
    · have : ¬ (k : Int).toNat = j := by simpa using hj
      simp [hj, this]
  refine ⟨k, by rw [h5]; simpa using h2, h6, rfl, rfl, by simp, ?_, hn⟩
  refine hw.nodes (by simp) rfl ?_
  intro x hx
  rw [hn] at hx ⊢
  split at hx
  · exact nomatch hx
  · next hne => rw [if_neg hne]; exact hw.un x hx
theorem hasLink_iff {M : PMem} {n : Int} : M.hasLink n false = true ↔ M.hasNode n = true ∧ 0 < (M.node n).links := by
  unfold PMem.hasLink
  simp [b2i]
/-- A first link. -/
theorem addLink_e {M : PMem} {n to : Int} (hw : Wm M) (hu : (M.node n).used = true) (hl : (M.node n).links = 0) (hp : Pd M n = []) (hf : 0 < M.room.2) :
    (M.addLink n to).ns.length = M.ns.length ∧ Wm (M.addLink n to) ∧ (∀ x, (M.addLink n to).node x = if x = n then linked false to (M.node n) else M.node x) ∧ (∀ x, Pd (M.addLink n to) x = if x = n then [to] else Pd M x) ∧ (∀ x s d, Sd (M.addLink n to) x s d ↔ Sd M x s d) ∧ M.room.2 = (M.addLink n to).room.2 + 1 := by
  obtain ⟨e, he, hue⟩ := count_some (l := M.es) (p := fun x => !x.used) (by unfold PMem.room at hf; simpa using hf)
  have hh := hasN_used hu
  obtain ⟨k0, y0, g1, g2, g3⟩ := found (p := fun x : PEntry => !x.used) he hue
  have hfe : (M.freeEntry != -1) = true := by
    rw [show M.freeEntry = (k0 : Int) from g3]
    simp
  have hw1 : Wm (M.modN n (linked false to)) := hw.modN hu _ (by simpa [linked] using hu)
  have hes := modN_ents M n (linked false to)
  have hlk : (M.modN n (linked false to)).hasLink n false = true := by
    rw [hasLink_iff, hasN_len (modN_len _ _ _), node_modN hh, if_pos rfl]
    exact ⟨hh, by simp [linked, hl]⟩
  obtain ⟨k, h1, h2, h3, h4, h5⟩ := pend_e (to := to) hw1 ⟨e, by rw [hes]; exact he, by simpa using hue⟩ hlk (by rw [pd_es hes]; exact hp)
  have heq : M.addLink n to = (M.modN n (linked false to)).pend n false to := by
    unfold PMem.addLink
    rw [hh, hfe, hl]
    rfl
  rw [heq]
  refine ⟨?_, h3, ?_, ?_, ?_, ?_⟩
  · rw [h2]; exact modN_len _ _ _
  · intro x
    rw [h2]
    exact node_modN hh _ x
  · intro x; rw [h4, pd_es hes]
  · intro x s d; rw [h5, sd_es hes]
  · rw [h2]
    unfold PMem.room
    simp only
    rw [hes] at h1 ⊢
    have := count_set_e (p := fun x : PEntry => !x.used) (y := ⟨true, true, n, false, to, 0⟩) h1 rfl rfl
    omega
/-- A node goes back. -/
theorem free_e {M : PMem} {n : Int} (hw : Wm M) (hh : M.hasNode n = true) (h0 : n ≠ 0 ∧ n ≠ 1) : (M.free n).ns.length = M.ns.length ∧ Wm (M.free n) ∧ (∀ x, (M.free n).node x = if x = n then PNode.zero else M.node x) ∧ (∀ x, Pd (M.free n) x = if x = n then [] else Pd M x) ∧ (∀ x s d, Sd (M.free n) x s d ↔ x ≠ n ∧ Sd M x s d) := by
  have heq : M.free n = { ns := M.ns.set n.toNat PNode.zero, es := M.es.map fun e => if ofNode n e then PEntry.zero else e } := by
    unfold PMem.free
    rw [if_pos (by simp [hh, h0])]
  obtain ⟨k, y, rfl, h1, h2⟩ := node_at hh
  have hn : ∀ x, (M.free k).node x = if x = (k : Int) then PNode.zero else M.node x := by
    intro x
    have := node_modN hh (fun _ => PNode.zero) x
    unfold PMem.modN at this
    rw [if_pos hh] at this
    rw [← this, heq]
    unfold PMem.node PMem.hasNode
    simp only [List.length_set, List.length_modify]
    congr 3
    apply List.ext_getElem?
    intro j
    rw [List.getElem?_set, List.getElem?_modify]
    by_cases hj : (k : Int).toNat = j
    · subst hj
      have := (List.getElem?_eq_some_iff.1 h1).1
      simp [this]
    · simp only [hj, if_false]
      cases M.ns[j]? <;> simp
  have hq : ∀ e ∈ M.es, ∀ x, isPd x false (if ofNode k e then PEntry.zero else e) = (isPd x false e && decide (x ≠ (k : Int))) := by
    intro e he x
    by_cases ho : ofNode k e = true
    · rw [if_pos ho, isPd_z]
      simp only [ofNode, Bool.and_eq_true, beq_iff_eq] at ho
      by_cases hx : x = (k : Int)
      · simp [hx]
      · have : ¬ (k : Int) = x := fun h => hx h.symm
        simp [isPd, ho.2, this]
    · rw [if_neg ho]
      by_cases hx : x = (k : Int)
      · subst hx
        cases hp : isPd k false e
        · rfl
        · exfalso
          apply ho
          simp only [isPd, Bool.and_eq_true, beq_iff_eq] at hp
          cases hu : e.used
          · rw [hw.wfe e he hu] at hp; exact nomatch hp.1
          · simp [ofNode, hu, hp.2.1]
      · simp [hx]
  refine ⟨by rw [heq]; simp, ⟨?_, ?_, ?_, ?_⟩, hn, ?_, ?_⟩
  · rw [heq]; simpa using hw.len
  · rw [heq]
    intro e he hu
    simp only [List.mem_map] at he
    obtain ⟨e', he', rfl⟩ := he
    split at hu
    · next hc => rw [if_pos hc]
    · next hc => rw [if_neg hc]; exact hw.wfe e' he' hu
  · rw [heq]
    intro e he
    simp only [List.mem_map] at he
    obtain ⟨e', he', rfl⟩ := he
    split
    · rfl
    · exact hw.sd e' he'
  · intro x hx
    rw [hn] at hx ⊢
    split at hx
    · next hc => rw [if_pos hc]
    · next hc => rw [if_neg hc]; exact hw.un x hx
  · intro x
    rw [heq]
    unfold Pd
    simp only
    have key : ∀ l : List PEntry, (∀ e ∈ l, e ∈ M.es) → ((l.map fun e => if ofNode k e then PEntry.zero else e).filter (isPd x false)).map PEntry.dst = if x = (k : Int) then [] else (l.filter (isPd x false)).map PEntry.dst := by
      intro l
      induction l with
      | nil => intro _; split <;> rfl
      | cons a r ih =>
        intro hl
        have ih := ih (fun e he => hl e (by simp [he]))
        have ha := hq a (hl a (by simp)) x
        simp only [List.map_cons, List.filter_cons, ha]
        by_cases hx : x = (k : Int)
        · rw [if_pos hx] at ih ⊢
          simp [hx]
          simpa [hx] using ih
        · rw [if_neg hx] at ih ⊢
          simp only [hx, not_false_eq_true, decide_true, Bool.and_true, ne_eq]
          by_cases hp : isPd x false a = true
          · have ho : ofNode k a = false := by
              cases ho : ofNode k a
              · rfl
              · simp only [ofNode, Bool.and_eq_true, beq_iff_eq] at ho
                simp only [isPd, Bool.and_eq_true, beq_iff_eq] at hp
                exact absurd (hp.2.1.symm.trans ho.2) hx
            rw [if_pos hp, if_pos hp, List.map_cons, List.map_cons, ih, ho]; rfl
          · rw [if_neg hp, if_neg hp, ih]
    exact key M.es (fun e he => he)
  · intro x s d
    rw [heq]
    unfold Sd
    simp only [List.mem_map]
    constructor
    · rintro ⟨e, ⟨e', he', rfl⟩, h3, h4⟩
      by_cases ho : ofNode k e' = true
      · rw [if_pos ho, isSt_z] at h3; cases h3
      · rw [if_neg ho] at h3 h4
        refine ⟨?_, e', he', h3, h4⟩
        rintro rfl
        apply ho
        simp only [isSt, Bool.and_eq_true, beq_iff_eq] at h3
        simp [ofNode, h3.1, h3.2.2.1]
    · rintro ⟨hx, e, he, h3, h4⟩
      have ho : ¬ ofNode k e = true := by
        intro ho
        simp only [ofNode, Bool.and_eq_true, beq_iff_eq] at ho
        simp only [isSt, Bool.and_eq_true, beq_iff_eq] at h3
        exact hx (h3.2.2.1.symm.trans ho.2)
      exact ⟨e, ⟨e, he, by rw [if_neg ho]⟩, h3, h4⟩
/-- Where a link led at a time. -/
theorem led_fold_e (n time : Int) : ∀ (l : List PEntry) (p : Int × Int), (∀ e ∈ l, isSt n false e = true → 0 ≤ e.stamp) →
    (l.foldl (ledStep n false time) p = p ∧ ∀ e ∈ l, isSt n false e = true → e.stamp ≤ time → e.stamp ≤ p.1) ∨
    (∃ e ∈ l, isSt n false e = true ∧ e.stamp ≤ time ∧ p.1 < e.stamp ∧ l.foldl (ledStep n false time) p = (e.stamp, e.dst) ∧ ∀ e' ∈ l, isSt n false e' = true → e'.stamp ≤ time → e'.stamp ≤ e.stamp)
  | [], p, _ => .inl ⟨rfl, by simp⟩
  | a :: r, p, h => by
    have ih := led_fold_e n time r (ledStep n false time p a) (fun e he => h e (by simp [he]))
    rw [List.foldl_cons]
    by_cases hc : (isSt n false a && (decide (a.stamp ≤ time) && decide (p.1 < a.stamp))) = true
    · have hq : ledStep n false time p a = (a.stamp, a.dst) := by unfold ledStep; rw [if_pos hc]
      rw [hq] at ih ⊢
      simp only [Bool.and_eq_true, decide_eq_true_eq] at hc
      rcases ih with ⟨i1, i2⟩ | ⟨e, e1, e2, e3, e4, e5, e6⟩
      · right
        refine ⟨a, by simp, hc.1, hc.2.1, hc.2.2, i1, ?_⟩
        intro e' he' h1 h2
        rcases List.mem_cons.1 he' with rfl | he'
        · exact Int.le_refl _
        · exact i2 e' he' h1 h2
      · right
        simp only at e4
        refine ⟨e, by simp [e1], e2, e3, by omega, e5, ?_⟩
        intro e' he' h1 h2
        rcases List.mem_cons.1 he' with rfl | he'
        · omega
        · exact e6 e' he' h1 h2
    · have hq : ledStep n false time p a = p := by unfold ledStep; rw [if_neg hc]
      rw [hq] at ih ⊢
      have ha : isSt n false a = true → a.stamp ≤ time → a.stamp ≤ p.1 := by
        intro h1 h2
        simp only [Bool.and_eq_true, decide_eq_true_eq, not_and] at hc
        have := hc h1 h2
        omega
      rcases ih with ⟨i1, i2⟩ | ⟨e, e1, e2, e3, e4, e5, e6⟩
      · left
        refine ⟨i1, ?_⟩
        intro e he h1 h2
        rcases List.mem_cons.1 he with rfl | he
        · exact ha h1 h2
        · exact i2 e he h1 h2
      · right
        refine ⟨e, by simp [e1], e2, e3, e4, e5, ?_⟩
        intro e' he' h1 h2
        rcases List.mem_cons.1 he' with rfl | he'
        · have := ha h1 h2; omega
        · exact e6 e' he' h1 h2
theorem ledTo_ok {M : PMem} {n time : Int} (h : ∀ s d, Sd M n s d → 0 ≤ s) : (M.ledTo n false time = 1 ∧ ∀ s d, Sd M n s d → ¬ s ≤ time) ∨ ∃ s, Sd M n s (M.ledTo n false time) ∧ s ≤ time ∧ ∀ s' d', Sd M n s' d' → s' ≤ time → s' ≤ s := by
  have h0 : ∀ e ∈ M.es, isSt n false e = true → 0 ≤ e.stamp := fun e he hs => h e.stamp e.dst ⟨e, he, hs, rfl, rfl⟩
  unfold PMem.ledTo
  rcases led_fold_e n time M.es (-1, 1) h0 with ⟨h1, h2⟩ | ⟨e, e1, e2, e3, e4, e5, e6⟩
  · left
    rw [h1]
    refine ⟨rfl, ?_⟩
    rintro s d ⟨e, he, hs, rfl, rfl⟩ hle
    have := h2 e he hs hle
    have := h0 e he hs
    simp only at *
    omega
  · right
    rw [e5]
    refine ⟨e.stamp, ⟨e, e1, e2, rfl, rfl⟩, e3, ?_⟩
    rintro s' d' ⟨e', he', hs', rfl, rfl⟩ hle
    exact e6 e' he' hs' hle
end Go.Proofs.YtfccelbmacjifaaGreat

set_option linter.unusedSimpArgs false
namespace Go.Proofs.YtfccelbmacjifaaGreat
theorem maxE (p : PEntry → Bool) : ∀ (l : List PEntry), (∃ x ∈ l, p x = true) → ∃ x ∈ l, p x = true ∧ ∀ y ∈ l, p y = true → y.stamp ≤ x.stamp
  | [], h => by obtain ⟨x, hx, _⟩ := h; cases hx
  | z :: r, h => by
    by_cases hr : ∃ x ∈ r, p x = true
    · obtain ⟨x, h1, h2, h3⟩ := maxE p r hr
      by_cases hz : p z = true ∧ x.stamp < z.stamp
      · refine ⟨z, by simp, hz.1, ?_⟩
        intro y hy hp
        rcases List.mem_cons.1 hy with rfl | hy
        · exact Int.le_refl _
        · have := h3 y hy hp; omega
      · refine ⟨x, by simp [h1], h2, ?_⟩
        intro y hy hp
        rcases List.mem_cons.1 hy with rfl | hy
        · rcases Int.lt_or_le x.stamp y.stamp with hlt | hle
          · exact absurd ⟨hp, hlt⟩ hz
          · exact hle
        · exact h3 y hy hp
    · obtain ⟨x, hx, hp⟩ := h
      rcases List.mem_cons.1 hx with rfl | hx
      · refine ⟨x, by simp, hp, ?_⟩
        intro y hy hpy
        rcases List.mem_cons.1 hy with rfl | hy
        · exact Int.le_refl _
        · exact absurd ⟨y, hy, hpy⟩ hr
      · exact absurd ⟨x, hx, hp⟩ hr
section
variable {es : List PEntry} {time : Int}
def Over (time : Int) (es : List PEntry) (e : PEntry) : Prop := isSt e.src e.side e = true ∧ ∃ e' ∈ es, stampAbove e.src e.side e.stamp time e' = true
structure DropK (time : Int) (es D : List PEntry) (k : Nat) : Prop where
  len : D.length = es.length
  yes : ∀ (j : Nat) e, es[j]? = some e → j < k → Over time es e → D[j]? = some PEntry.zero
  no : ∀ (j : Nat) e, es[j]? = some e → (j < k → ¬ Over time es e) → D[j]? = some e
theorem DropK.back {D : List PEntry} {k : Nat} (h : DropK time es D k) {j : Nat} {e : PEntry} (hj : D[j]? = some e) : ∃ e0, es[j]? = some e0 ∧ (e = PEntry.zero ∨ (e = e0 ∧ (j < k → ¬ Over time es e))) := by
  have hl := (List.getElem?_eq_some_iff.1 hj).1
  rw [h.len] at hl
  have he := List.getElem?_eq_getElem hl
  refine ⟨_, he, ?_⟩
  by_cases hh : j < k → ¬ Over time es es[j]
  · have := h.no j _ he hh
    rw [this] at hj
    injection hj with hj
    subst hj
    exact .inr ⟨rfl, hh⟩
  · simp only [Classical.not_imp, Classical.not_not] at hh
    have := h.yes j _ he hh.1 hh.2
    rw [this] at hj
    injection hj with hj
    exact .inl hj.symm
theorem DropK.any {D : List PEntry} {k : Nat} (h : DropK time es D k) (e : PEntry) : D.any (stampAbove e.src e.side e.stamp time) = true ↔ ∃ e' ∈ es, stampAbove e.src e.side e.stamp time e' = true := by
  rw [List.any_eq_true]
  constructor
  · rintro ⟨x, hx, hp⟩
    obtain ⟨j, hj⟩ := List.mem_iff_getElem?.1 hx
    obtain ⟨e0, h1, h2⟩ := h.back hj
    rcases h2 with rfl | ⟨rfl, _⟩
    · simp [stampAbove, isSt_z] at hp
    · exact ⟨x, List.mem_of_getElem? h1, hp⟩
  · intro hh
    obtain ⟨x, hx, hp, hm⟩ := maxE _ es hh
    obtain ⟨j, hj⟩ := List.mem_iff_getElem?.1 hx
    refine ⟨x, List.mem_of_getElem? (h.no j x hj (fun _ => ?_)), hp⟩
    rintro ⟨_, y, hy, hp2⟩
    simp only [stampAbove, isSt, Bool.and_eq_true, beq_iff_eq, decide_eq_true_eq] at hp hp2 hm
    have := hm y hy ⟨⟨hp2.1.1, hp2.1.2.1, hp2.1.2.2.1.trans hp.1.2.2.1, hp2.1.2.2.2.trans hp.1.2.2.2⟩, by omega, hp2.2.2⟩
    omega
theorem DropK.step {D : List PEntry} {k : Nat} (h : DropK time es D k) : DropK time es (dropOne time D k) (k + 1) := by
  unfold dropOne
  cases hk : D[k]? with
  | none =>
    simp only
    have hl := List.getElem?_eq_none_iff.1 hk
    rw [h.len] at hl
    refine ⟨h.len, ?_, ?_⟩
    · intro j e he hj ho
      have := (List.getElem?_eq_some_iff.1 he).1
      exact h.yes j e he (by omega) ho
    · intro j e he hj
      exact h.no j e he (fun hh => hj (by omega))
  | some e0 =>
    simp only
    have hkl := (List.getElem?_eq_some_iff.1 hk).1
    have hek : es[k]? = some e0 := by
      obtain ⟨e1, h1, _⟩ := h.back hk
      have := h.no k e1 h1 (fun hh => by omega)
      rw [hk] at this
      rw [h1, this]
    have hov : (isSt e0.src e0.side e0 && D.any (stampAbove e0.src e0.side e0.stamp time)) = true ↔ Over time es e0 := by
      rw [Bool.and_eq_true, h.any]; rfl
    by_cases ho : Over time es e0
    · rw [if_pos (hov.2 ho)]
      refine ⟨by simpa using h.len, ?_, ?_⟩
      · intro j e he hj h1
        by_cases hjk : k = j
        · subst hjk; rw [List.getElem?_set_self hkl]
        · rw [List.getElem?_set_ne hjk]; exact h.yes j e he (by omega) h1
      · intro j e he hj
        by_cases hjk : k = j
        · subst hjk
          rw [hek] at he; injection he with he; subst he
          exact absurd ho (hj (by omega))
        · rw [List.getElem?_set_ne hjk]; exact h.no j e he (fun hh => hj (by omega))
    · rw [if_neg (fun hh => ho (hov.1 hh))]
      refine ⟨h.len, ?_, ?_⟩
      · intro j e he hj h1
        by_cases hjk : k = j
        · subst hjk
          rw [hek] at he; injection he with he; subst he
          exact absurd h1 ho
        · exact h.yes j e he (by omega) h1
      · intro j e he hj
        exact h.no j e he (fun hh => hj (by omega))
theorem dropK (time : Int) (es : List PEntry) : ∀ k, DropK time es (dropTo time es k) k
  | 0 => ⟨rfl, fun _ _ _ h => by omega, fun _ _ h _ => h⟩
  | k + 1 => (dropK time es k).step
end
theorem filt_same {α β : Type} (p : α → Bool) (f : α → β) : ∀ (l m : List α), m.length = l.length → (∀ (j : Nat) a b, l[j]? = some a → m[j]? = some b → a = b ∨ (p a = false ∧ p b = false)) → (m.filter p).map f = (l.filter p).map f
  | [], [], _, _ => rfl
  | [], b :: m, h, _ => by simp at h
  | a :: l, [], h, _ => by simp at h
  | a :: l, b :: m, h, hp => by
    have ih := filt_same p f l m (by simpa using h) (fun j x y hx hy => hp (j + 1) x y (by simpa using hx) (by simpa using hy))
    rw [List.filter_cons, List.filter_cons]
    rcases hp 0 a b rfl rfl with rfl | ⟨h1, h2⟩
    · split <;> simp [ih]
    · rw [h1, h2]; simpa using ih
/-- The sweep's drop. -/
theorem drop_ok {M : PMem} (hw : Wm M) (time : Int) : (M.drop time).ns = M.ns ∧ Wm (M.drop time) ∧ (∀ x, Pd (M.drop time) x = Pd M x) ∧ (∀ x s d, Sd (M.drop time) x s d ↔ Sd M x s d ∧ ∀ s' d', Sd M x s' d' → s < s' → ¬ s' ≤ time) := by
  have hD := dropK time M.es M.es.length
  have hov : ∀ e ∈ M.es, ∀ x, isSt x false e = true → (Over time M.es e ↔ ∃ s' d', Sd M x s' d' ∧ e.stamp < s' ∧ s' ≤ time) := by
    intro e he x hx
    have hx' := hx
    simp only [isSt, Bool.and_eq_true, beq_iff_eq] at hx'
    obtain ⟨h1, h2, h3, h4⟩ := hx'
    unfold Over
    rw [h3, h4]
    constructor
    · rintro ⟨_, e', he', hp⟩
      simp only [stampAbove, Bool.and_eq_true, decide_eq_true_eq] at hp
      exact ⟨e'.stamp, e'.dst, ⟨e', he', hp.1, rfl, rfl⟩, hp.2.1, hp.2.2⟩
    · rintro ⟨s', d', ⟨e', he', hs, rfl, rfl⟩, hl, hr⟩
      refine ⟨hx, e', he', ?_⟩
      simp only [stampAbove, Bool.and_eq_true, decide_eq_true_eq]
      exact ⟨hs, hl, hr⟩
  refine ⟨rfl, ⟨hw.len, ?_, ?_, hw.un⟩, ?_, ?_⟩
  · intro e he hu
    obtain ⟨j, hj⟩ := List.mem_iff_getElem?.1 he
    obtain ⟨e0, h1, h2⟩ := hD.back hj
    rcases h2 with rfl | ⟨rfl, _⟩
    · rfl
    · exact hw.wfe e (List.mem_of_getElem? h1) hu
  · intro e he
    obtain ⟨j, hj⟩ := List.mem_iff_getElem?.1 he
    obtain ⟨e0, h1, h2⟩ := hD.back hj
    rcases h2 with rfl | ⟨rfl, _⟩
    · rfl
    · exact hw.sd e (List.mem_of_getElem? h1)
  · intro x
    unfold Pd
    refine filt_same _ _ _ _ hD.len ?_
    intro j a b ha hb
    have hb : (dropTo time M.es M.es.length)[j]? = some b := hb
    by_cases ho : Over time M.es a
    · have hj := (List.getElem?_eq_some_iff.1 ha).1
      have := hD.yes j a ha hj ho
      rw [this] at hb; injection hb with hb; subst hb
      right
      refine ⟨?_, isPd_z _ _⟩
      have := ho.1
      simp only [isSt, Bool.and_eq_true] at this
      simp [isPd]
      intro hp
      rw [hp] at this
      simp at this
    · have := hD.no j a ha (fun _ => ho)
      rw [this] at hb; injection hb with hb
      exact .inl hb
  · intro x s d
    constructor
    · rintro ⟨e, he, hs, rfl, rfl⟩
      obtain ⟨j, hj⟩ := List.mem_iff_getElem?.1 he
      obtain ⟨e0, h1, h2⟩ := hD.back hj
      rcases h2 with rfl | ⟨rfl, h3⟩
      · rw [isSt_z] at hs; cases hs
      · have hm := List.mem_of_getElem? h1
        refine ⟨⟨e, hm, hs, rfl, rfl⟩, ?_⟩
        intro s' d' h4 h5 h6
        exact h3 (List.getElem?_eq_some_iff.1 h1).1 ((hov e hm x hs).2 ⟨s', d', h4, h5, h6⟩)
    · rintro ⟨⟨e, he, hs, rfl, rfl⟩, hno⟩
      obtain ⟨j, hj⟩ := List.mem_iff_getElem?.1 he
      refine ⟨e, List.mem_of_getElem? (hD.no j e hj (fun _ ho => ?_)), hs, rfl, rfl⟩
      obtain ⟨s', d', h4, h5, h6⟩ := (hov e he x hs).1 ho
      exact hno s' d' h4 h5 h6
end Go.Proofs.YtfccelbmacjifaaGreat

set_option linter.unusedSimpArgs false
namespace Go.Proofs.YtfccelbmacjifaaGreat
/-! ### What holds of a list's memory and threads, whatever is under way -/
abbrev Us (M : PMem) (x : Int) : Prop := (M.node x).used = true
abbrev De (M : PMem) (x : Int) : Prop := (M.node x).dead = true
abbrev Re (M : PMem) (x : Int) : Prop := (M.node x).retired = true
abbrev Ra (M : PMem) (x : Int) : Int := (M.node x).retiredAt
abbrev Ky (M : PMem) (x : Int) : Int := (M.node x).key
abbrev Ld (M : PMem) (x : Int) : Int := (M.node x).leads false
abbrev Ho (M : PMem) (x : Int) : Int := (M.node x).holder
def Lt (M : PMem) (x y : Int) : Prop := x = 0 ∨ Ky M x < Ky M y
def InSw (r : PSweep) (x : Int) : Prop := ∃ n ∈ r.retired, ((n : Nat) : Int) = x
/-- What others see of an update in its midst. -/
def Fresh8 (x : Int) (t : PThread) : Prop := t.busy = true ∧ t.work.kind = 1 ∧ t.work.next = 8 ∧ x ∈ t.work.made
def Fresh (x : Int) (t : PThread) : Prop := t.busy = true ∧ t.work.kind = 1 ∧ (t.work.next = 8 ∨ t.work.next = 10) ∧ x ∈ t.work.made
def Killing (x : Int) (t : PThread) : Prop := t.busy = true ∧ t.work.kind = 2 ∧ t.work.next = 10 ∧ t.work.ahead = x
def Outing (x : Int) (t : PThread) : Prop := t.busy = true ∧ t.work.kind = 2 ∧ (t.work.next = 11 ∨ (t.work.next = 12 ∧ t.work.ans.did = true)) ∧ t.work.ahead = x
def Pends (x : Int) (t : PThread) : Prop := t.busy = true ∧ (t.work.kind = 1 ∨ t.work.kind = 2) ∧ 8 ≤ t.work.next ∧ t.work.next ≤ 11 ∧ t.work.stand = x
def Vs (x s : Int) (t : PThread) : Prop := t.busy = true ∧ (t.work.kind = 1 ∨ t.work.kind = 2) ∧ 9 ≤ t.work.next ∧ t.work.next ≤ 11 ∧ t.work.stand = x ∧ t.work.ans.stamp = s
/-- None of these. -/
def Calm (t : PThread) : Prop := t.busy = true → (t.work.kind = 1 ∨ t.work.kind = 2) → t.work.next ≤ 7 ∨ t.work.next = 13 ∨ (t.work.next = 12 ∧ ¬ (t.work.kind = 2 ∧ t.work.ans.did = true))
def Ex (ts : List PThread) (p : PThread → Prop) : Prop := ∃ (i : Nat) (t : PThread), ts[i]? = some t ∧ p t
theorem Ex.set {ts : List PThread} {i : Nat} {t t' : PThread} {p : PThread → Prop} (ht : ts[i]? = some t) (h : Ex ts p) (hp : p t → p t') : Ex (ts.set i t') p := by
  obtain ⟨j, u, hj, hu⟩ := h
  have hi := (List.getElem?_eq_some_iff.1 ht).1
  by_cases e : i = j
  · subst e
    rw [ht] at hj; injection hj with hj; subst hj
    exact ⟨i, t', by simp [hi], hp hu⟩
  · exact ⟨j, u, by rw [List.getElem?_set_ne e]; exact hj, hu⟩
theorem Ex.new {ts : List PThread} {i : Nat} {t t' : PThread} {p : PThread → Prop} (ht : ts[i]? = some t) (hp : p t') : Ex (ts.set i t') p := by
  have hi := (List.getElem?_eq_some_iff.1 ht).1
  exact ⟨i, t', by simp [hi], hp⟩
/-- Some thread, or it was this one. -/
theorem Ex.or {ts : List PThread} {i : Nat} {t : PThread} {p : PThread → Prop} (ht : ts[i]? = some t) (h : Ex ts p) : p t ∨ ∃ j u, j ≠ i ∧ ts[j]? = some u ∧ p u := by
  obtain ⟨j, u, hj, hu⟩ := h
  by_cases e : j = i
  · subst e
    rw [ht] at hj; injection hj with hj; subst hj
    exact .inl hu
  · exact .inr ⟨j, u, e, hj, hu⟩
theorem Ex.other {ts : List PThread} {i j : Nat} {u t' : PThread} {p : PThread → Prop} (hj : ts[j]? = some u) (hp : p u) (e : j ≠ i) : Ex (ts.set i t') p :=
  ⟨j, u, by rw [List.getElem?_set_ne (Ne.symm e)]; exact hj, hp⟩
def Vd (M : PMem) (ts : List PThread) (x s : Int) : Prop := (∃ d, Sd M x s d) ∨ Ex ts (Vs x s)
def wl (M : PMem) (k : PWork) : Nat := if k.kind = 2 ∧ Ky M k.ahead = k.key then 2 else 1
def Safe (M : PMem) (r : PSweep) (i : Nat) (time x : Int) : Prop :=
  Us M x ∧ (Re M x → time ≤ Ra M x) ∧ (i + 1 < r.made → (r.hasTime = true ∧ r.time ≤ time) ∨ (r.clock ≤ time ∧ ¬ InSw r x))
def Gd (M : PMem) (C : Int → Prop) (x : Int) : Prop := C x ∨ De M x
/-- The nodes, and the chain C that the links make now. -/
structure InvN (C : Int → Prop) (M : PMem) (c : Int) (r : PSweep) : Prop where
  a0 : C 0 ∧ (M.node 0).dead = false
  a1 : ¬ C 1 ∧ Us M 1 ∧ (M.node 1).links = 0 ∧ (M.node 1).dead = false ∧ (M.node 1).retired = false ∧ Ky M 1 = 1099511627777
  mc : ∀ x, C x → Us M x ∧ (M.node x).links = 1 ∧ (M.node x).retired = false ∧ (Ld M x = 1 ∨ C (Ld M x)) ∧ Ld M x ≠ 0 ∧ Lt M x (Ld M x)
  kr : ∀ x, Us M x → x ≠ 0 → x ≠ 1 → 0 ≤ Ky M x ∧ Ky M x ≤ 1099511627776
  mi : ∀ x y, C x → C y → Ld M x = Ld M y → x = y
  md : ∀ x, De M x → Us M x ∧ (M.node x).links = 1
  mr : ∀ x, Re M x → De M x ∧ ¬ C x ∧ Ra M x ≤ c
  mo : ∀ y, De M y → ¬ C y → Ld M y ≠ 0 ∧ Ky M y < Ky M (Ld M y) ∧ (Ld M y = 1 ∨ C (Ld M y) ∨ (De M (Ld M y) ∧ ¬ C (Ld M y) ∧ Re M y ∧ (Re M (Ld M y) → Ra M y ≤ Ra M (Ld M y)) ∧ (InSw r (Ld M y) → InSw r y)))
/-- The entries. -/
structure InvE (C : Int → Prop) (M : PMem) (c : Int) (r : PSweep) (ts : List PThread) : Prop where
  ms : ∀ x s d, Sd M x s d → Us M x ∧ x ≠ 1 ∧ 0 ≤ s ∧ s ≤ c ∧ d ≠ 0 ∧ (d = 1 ∨ C d ∨ De M d) ∧ Lt M x d
  pd : ∀ x d, d ∈ Pd M x → Ex ts (fun t => Pends x t ∨ Fresh8 x t)
  nw : ∀ x s d, Sd M x s d → d = Ld M x ∨ ∃ s', s < s' ∧ Vd M ts x s'
  ol : ∀ x s d, Sd M x s d → Re M d → (∃ s', s < s' ∧ s' ≤ Ra M d ∧ Vd M ts x s') ∨ (Re M x ∧ Ra M x ≤ Ra M d ∧ (InSw r d → InSw r x))
  dr : r.made = ts.length + 2 → ∀ x s d, Sd M x s d → InSw r d → (r.hasTime = true → Ra M d < r.time) → InSw r x ∧ Ra M x ≤ Ra M d
/-- Who has what. -/
structure InvO (C : Int → Prop) (M : PMem) (c : Int) (r : PSweep) (ts : List PThread) : Prop where
  us : ∀ x, Us M x → x = 1 ∨ C x ∨ De M x ∨ Ex ts (Fresh x)
  ki : ∀ x, De M x → C x → Ex ts (Killing x)
  ou : ∀ x, De M x → ¬ C x → (M.node x).retired = false → Ex ts (Outing x)
  ho : ∀ x, Us M x → Ho M x = -1 ∨ ∃ i : Nat, i < ts.length ∧ Ho M x = i
  pw : ∀ (i j : Nat) t u x, ts[i]? = some t → ts[j]? = some u → Fresh x t → Fresh x u → i = j
  sw : ∀ x, InSw r x → Re M x ∧ Ra M x ≤ r.clock
  sc : r.clock ≤ c ∧ 0 ≤ c
  sm : r.made ≤ ts.length + 2
  sz : r.made = 0 → r.retired = [] ∧ r.hasTime = false
/-- A thread. -/
structure Th (C : Int → Prop) (M : PMem) (c : Int) (r : PSweep) (i : Nat) (t : PThread) : Prop where
  kd : t.busy = true → t.work.kind = 1 ∨ t.work.kind = 2 ∨ t.work.kind = 3 ∨ t.work.kind = 4
  nx : t.busy = true → 1 ≤ t.work.next ∧ t.work.next ≤ 13
  rd : t.busy = true → (t.work.kind = 3 ∨ t.work.kind = 4) → t.work.next ≤ 4 ∨ t.work.next = 13
  sl : t.slot = if t.busy = true ∧ t.work.next ≠ 1 then (if t.work.next ≤ 3 then 1 else 2) else 0
  tm : t.busy = true → 3 ≤ t.work.next → t.work.time ≤ c ∧ (i + 1 < r.made → (r.hasTime = true ∧ r.time ≤ t.work.time) ∨ r.clock ≤ t.work.time)
  hd : ∀ x, Us M x → (Ho M x = i ↔ t.busy = true ∧ x ∈ [t.work.stand, t.work.ahead].take t.work.locks)
  l4 : t.busy = true → t.work.next ≤ 4 ∨ t.work.next = 13 → t.work.locks = 0
  l5 : t.busy = true → t.work.next = 5 → t.work.locks < wl M t.work
  l6 : t.busy = true → 6 ≤ t.work.next → t.work.next ≤ 12 → t.work.locks = wl M t.work
  ky : t.busy = true → t.work.kind ≠ 4 → 0 ≤ t.work.key ∧ t.work.key ≤ 1099511627776
  hi : t.busy = true → t.work.kind = 4 → greatestHi t.work.spans ≤ 1099511627776
  lk : t.busy = true → t.work.kind = 4 → t.work.next ≤ 3 → t.work.links = [(0, false)]
  xs : t.busy = true → t.work.kind ≠ 4 → 4 ≤ t.work.next → t.work.next ≤ 12 → Gd M C t.work.stand ∧ Safe M r i t.work.time t.work.stand ∧ (t.work.stand = 0 ∨ Ky M t.work.stand < t.work.key)
  xl : t.busy = true → t.work.kind = 4 → t.work.next = 4 → ∃ x, t.work.links = [(x, false)] ∧ Gd M C x ∧ Safe M r i t.work.time x
  cs : t.busy = true → 5 ≤ t.work.next → t.work.next ≤ 12 → (t.work.ahead = 1 ∨ Gd M C t.work.ahead) ∧ Safe M r i t.work.time t.work.ahead ∧ t.work.ahead ≠ 0 ∧ t.work.key ≤ Ky M t.work.ahead
  m7 : t.busy = true → t.work.next ≤ 7 → t.work.made = []
  c7 : t.busy = true → 7 ≤ t.work.next → t.work.next ≤ 11 → C t.work.stand ∧ (M.node t.work.stand).dead = false ∧ (Ky M t.work.ahead = t.work.key ↔ t.work.kind = 2)
  c10 : t.busy = true → 7 ≤ t.work.next → t.work.next ≤ 10 → Ld M t.work.stand = t.work.ahead
  d9 : t.busy = true → t.work.kind = 2 → 7 ≤ t.work.next → t.work.next ≤ 9 → (M.node t.work.ahead).dead = false
  d10 : t.busy = true → t.work.kind = 2 → t.work.next = 10 → De M t.work.ahead
  n9 : t.busy = true → t.work.next = 9 → t.work.kind = 2
  ot : Outing t.work.ahead t → C t.work.stand ∧ Ld M t.work.stand = Ld M t.work.ahead ∧ De M t.work.ahead ∧ ¬ C t.work.ahead ∧ (M.node t.work.ahead).retired = false ∧ Ky M t.work.ahead = t.work.key
  ts : t.busy = true → 8 ≤ t.work.next → t.work.next ≤ 11 → t.work.tsrc = t.work.stand ∧ t.work.tside = false
  f8 : t.busy = true → t.work.kind = 1 → (t.work.next = 8 ∨ t.work.next = 10) → ∃ n, t.work.made = [n] ∧ n ≠ 0 ∧ n ≠ 1 ∧ Us M n ∧ ¬ C n ∧ (M.node n).dead = false ∧ Ky M n = t.work.key ∧ (M.node n).links = 1 ∧ Ld M n = t.work.ahead ∧ Pd M t.work.stand = [n] ∧ (t.work.next = 8 → Pd M n = [t.work.ahead] ∧ ∀ s d, ¬ Sd M n s d)
  p2 : t.busy = true → t.work.kind = 2 → 8 ≤ t.work.next → t.work.next ≤ 10 → Pd M t.work.stand = [Ld M t.work.ahead] ∧ t.work.made = []
  p11 : t.busy = true → t.work.next = 11 → Pd M t.work.stand = [Ld M t.work.stand]
  s9 : t.busy = true → 9 ≤ t.work.next → t.work.next ≤ 11 → t.work.ans.did = true ∧ t.work.time < t.work.ans.stamp ∧ (0 ≤ t.work.ans.stamp ∧ t.work.ans.stamp ≤ c) ∧ ∀ s d, Sd M t.work.stand s d → s < t.work.ans.stamp
  l3 : t.busy = true → t.work.kind ≠ 4 → t.work.links = []
structure Inv (C : Int → Prop) (P : PSt) : Prop where
  kind : P.kind = 0
  wm : Wm P.mem
  n : InvN C P.mem P.clock P.sweep
  e : InvE C P.mem P.clock P.sweep P.ts
  o : InvO C P.mem P.clock P.sweep P.ts
  th : ∀ (i : Nat) t, P.ts[i]? = some t → Th C P.mem P.clock P.sweep i t
/-! ### Calm threads -/
section
variable {t : PThread} {x s : Int}
theorem Calm.fresh8 (h : Calm t) : ¬ Fresh8 x t := by rintro ⟨h1, h2, h3, _⟩; have := h h1 (.inl h2); omega
theorem Calm.fresh (h : Calm t) : ¬ Fresh x t := by rintro ⟨h1, h2, h3, _⟩; have := h h1 (.inl h2); omega
theorem Calm.killing (h : Calm t) : ¬ Killing x t := by rintro ⟨h1, h2, h3, _⟩; have := h h1 (.inr h2); omega
theorem Calm.outing (h : Calm t) : ¬ Outing x t := by
  rintro ⟨h1, h2, h3, _⟩
  rcases h h1 (.inr h2) with h4 | h4 | h4
  · omega
  · omega
  · rcases h3 with h3 | h3
    · omega
    · exact h4.2 ⟨h2, h3.2⟩
theorem Calm.pends (h : Calm t) : ¬ Pends x t := by rintro ⟨h1, h2, h3, h4, _⟩; have := h h1 h2; omega
theorem Calm.vs (h : Calm t) : ¬ Vs x s t := by rintro ⟨h1, h2, h3, h4, _⟩; have := h h1 h2; omega
end
/-- Nodes that differ in their holders alone. -/
def HoldEq (M M' : PMem) : Prop := ∀ x, ∃ h, M'.node x = { M.node x with holder := h }
section
variable {C : Int → Prop} {M M' : PMem} {c : Int} {r : PSweep} {ts : List PThread}
theorem InvN.congr (h : InvN C M c r) (hh : HoldEq M M') : InvN C M' c r := by
  have q : ∀ x, (M'.node x).used = (M.node x).used ∧ (M'.node x).dead = (M.node x).dead ∧ (M'.node x).retired = (M.node x).retired ∧ (M'.node x).retiredAt = (M.node x).retiredAt ∧ (M'.node x).key = (M.node x).key ∧ (M'.node x).leads = (M.node x).leads ∧ (M'.node x).links = (M.node x).links := by
    intro x; obtain ⟨g, hg⟩ := hh x; rw [hg]; exact ⟨rfl, rfl, rfl, rfl, rfl, rfl, rfl⟩
  have q1 := fun x => (q x).1
  have q2 := fun x => (q x).2.1
  have q3 := fun x => (q x).2.2.1
  have q4 := fun x => (q x).2.2.2.1
  have q5 := fun x => (q x).2.2.2.2.1
  have q6 := fun x => (q x).2.2.2.2.2.1
  have q7 := fun x => (q x).2.2.2.2.2.2
  obtain ⟨a0, a1, mc, kr, mi, md, mr, mo⟩ := h
  constructor <;> simp only [Us, De, Re, Ra, Ky, Ld, Lt, q1, q2, q3, q4, q5, q6, q7] at * <;> assumption
end
end Go.Proofs.YtfccelbmacjifaaGreat

