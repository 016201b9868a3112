import Derived.Test.YtfccelbmacjifaaGreatP33
import Derived.Test.YtfccelbmacjifaaGreatP32
set_option linter.unusedSimpArgs false
namespace Go.Proofs.YtfccelbmacjifaaGreat
open Go.RowKit
/-! ### A new store -/
theorem fresh_nodes (nn : Nat) (es : List PEntry) (x : Int) : (⟨freshNodes nn, es⟩ : PMem).node x = if x = 0 then anchorNode else if x = 1 then endNode else PNode.zero := by
  unfold PMem.node
  have hl : (⟨freshNodes nn, es⟩ : PMem).hasNode x = true ↔ 0 ≤ x ∧ x < nn + 2 := by
    unfold PMem.hasNode; rw [isIn_iff]; simp [freshNodes]; omega
  by_cases h : (⟨freshNodes nn, es⟩ : PMem).hasNode x = true
  · rw [if_pos h]
    rw [hl] at h
    by_cases h0 : x = 0
    · subst h0; rfl
    · rw [if_neg h0]
      by_cases h1 : x = 1
      · subst h1; rfl
      · rw [if_neg h1]
        obtain ⟨k, hk⟩ : ∃ k : Nat, x = k + 2 := ⟨(x - 2).toNat, by omega⟩
        have : x.toNat = k + 2 := by omega
        rw [this]
        show ((anchorNode :: endNode :: List.replicate nn PNode.zero)[k + 2]?).getD PNode.zero = _
        simp only [List.getElem?_cons_succ]
        rw [List.getElem?_replicate]
        split <;> rfl
  · rw [if_neg h]
    rw [hl] at h
    rw [if_neg (by omega), if_neg (by omega)]
theorem fresh_seen (nn en : Nat) (he : 1 ≤ en) : Wm (freshMem nn en) ∧ (freshMem nn en).ns.length = nn + 2 ∧ (∀ x, (freshMem nn en).node x = if x = 0 then linked false 1 anchorNode else if x = 1 then endNode else PNode.zero) ∧ (∀ x, Pd (freshMem nn en) x = []) ∧ (∀ x s d, Sd (freshMem nn en) x s d ↔ x = 0 ∧ s = 0 ∧ d = 1) := by
  have hz : ∀ e ∈ List.replicate en PEntry.zero, e = PEntry.zero := fun e he => (List.mem_replicate.1 he).2
  obtain ⟨M0, hM0⟩ : ∃ M0 : PMem, M0 = ⟨freshNodes nn, List.replicate en PEntry.zero⟩ := ⟨_, rfl⟩
  have hn0 : ∀ x, M0.node x = if x = 0 then anchorNode else if x = 1 then endNode else PNode.zero := fun x => by rw [hM0]; exact fresh_nodes nn _ x
  have hw0 : Wm M0 := by
    refine ⟨by rw [hM0]; simp [freshNodes], ?_, ?_, ?_⟩
    · intro e he _; rw [hM0] at he; exact hz e he
    · intro e he; rw [hM0] at he; rw [hz e he]; rfl
    · intro x hx
      rw [hn0] at hx ⊢
      by_cases h0 : x = 0
      · rw [if_pos h0] at hx; exact nomatch hx
      · rw [if_neg h0] at hx ⊢
        by_cases h1 : x = 1
        · rw [if_pos h1] at hx; exact nomatch hx
        · rw [if_neg h1]
  have hp0 : ∀ x, Pd M0 x = [] := by
    intro x
    rw [hM0]
    unfold Pd
    rw [List.filter_eq_nil_iff.2]
    · rfl
    · intro e he; rw [hz e he, isPd_z]; decide
  have hs0 : ∀ x s d, ¬ Sd M0 x s d := by
    rintro x s d ⟨e, he, h1, _⟩
    rw [hM0] at he
    rw [hz e he, isSt_z] at h1; cases h1
  have hr0 : 0 < M0.room.2 := by
    rw [hM0]
    unfold PMem.room
    simp only
    have : count (fun x : PEntry => !x.used) (List.replicate en PEntry.zero) = en := by
      unfold count
      rw [List.filter_eq_self.2]
      · simp
      · intro e he; rw [hz e he]; rfl
    rw [this]; omega
  obtain ⟨g1, g2, g3, g4, g5, _⟩ := addLink_e (n := 0) (to := 1) hw0 (by rw [hn0, if_pos rfl]; rfl) (by rw [hn0, if_pos rfl]; rfl) (hp0 0) hr0
  have hfm : freshMem nn en = (M0.addLink 0 1).stampNew 0 0 := by rw [hM0]; rfl
  generalize M0.addLink 0 1 = M1 at *
  obtain ⟨s1, s2, s3, s4⟩ := stamp_e (n := 0) (d := 1) 0 g2 (by rw [g4, if_pos rfl])
  have hfm2 : freshMem nn en = M1.stamp 0 false 0 := by
    rw [hfm]
    unfold PMem.stampNew
    rw [stamp_no s2]
  rw [hfm2]
  refine ⟨s2, ?_, ?_, ?_, ?_⟩
  · rw [s1, g1, hM0]; simp [freshNodes]
  · intro x
    rw [node_ns s1, g3]
    split
    · rw [hn0, if_pos rfl]
    · next h => rw [hn0, if_neg h]
  · intro x
    rw [s3]
    split
    · rfl
    · next h => rw [g4, if_neg h]; exact hp0 x
  · intro x s d
    rw [s4, g5]
    constructor
    · rintro (h | h)
      · exact absurd h (hs0 x s d)
      · exact h
    · exact .inr
theorem inv_fresh {T N E L : Int} (hE : 1 ≤ E) : Inv (fun x => x = 0) (freshP 0 T N E L) ∧ (freshP 0 T N E L).mem.ns.length = N.toNat + 2 := by
  obtain ⟨hw, hl, hn, hp, hs⟩ := fresh_seen N.toNat E.toNat (by omega)
  have hm : (freshP 0 T N E L).mem = freshMem N.toNat E.toNat := rfl
  refine ⟨⟨rfl, hw, ?_, ?_, ?_, ?_⟩, hl⟩
  all_goals (try rw [hm]); generalize freshMem N.toNat E.toNat = M at *
  · have n0 : M.node 0 = linked false 1 anchorNode := by rw [hn, if_pos rfl]
    have n1 : M.node 1 = endNode := by rw [hn, if_neg (by decide), if_pos rfl]
    have nd : ∀ x, (M.node x).dead = false := by
      intro x; rw [hn]; split
      · rfl
      · split <;> rfl
    have nr : ∀ x, (M.node x).retired = false := by
      intro x; rw [hn]; split
      · rfl
      · split <;> rfl
    refine ⟨⟨rfl, nd 0⟩, ⟨by decide, by simp only [Us]; rw [n1]; rfl, by rw [n1]; rfl, nd 1, nr 1, by simp only [Ky]; rw [n1]; rfl⟩, ?_, ?_, ?_, ?_, ?_, ?_⟩
    · rintro x rfl
      refine ⟨by simp only [Us]; rw [n0]; rfl, by rw [n0]; rfl, nr 0, ?_, ?_, .inl rfl⟩
      · left; simp only [Ld]; rw [n0]; rfl
      · simp only [Ld]; rw [n0]; decide
    · intro x hx h0 h1
      simp only [Us] at hx
      rw [hn, if_neg h0, if_neg h1] at hx
      exact nomatch hx
    · intro x y hx hy _; exact hx.trans hy.symm
    · intro x hx; simp only [De] at hx; rw [nd] at hx; cases hx
    · intro x hx; simp only [Re] at hx; rw [nr] at hx; cases hx
    · intro x hx; simp only [De] at hx; rw [nd] at hx; cases hx
  · have n0 : M.node 0 = linked false 1 anchorNode := by rw [hn, if_pos rfl]
    have nr : ∀ x, (M.node x).retired = false := by
      intro x; rw [hn]; split
      · rfl
      · split <;> rfl
    refine ⟨?_, ?_, ?_, ?_, ?_⟩
    · intro x s d h
      obtain ⟨rfl, rfl, rfl⟩ := (hs x s d).1 h
      exact ⟨by simp only [Us]; rw [n0]; rfl, by decide, by decide, Int.le_refl _, by decide, .inl rfl, .inl rfl⟩
    · intro x d h; rw [hp] at h; cases h
    · intro x s d h
      obtain ⟨rfl, rfl, rfl⟩ := (hs x s d).1 h
      left; simp only [Ld]; rw [n0]; rfl
    · intro x s d _ hr; simp only [Re] at hr; rw [nr] at hr; cases hr
    · intro h
      have : (0 : Nat) = _ := h
      omega
  · have nd : ∀ x, (M.node x).dead = false := by
      intro x; rw [hn]; split
      · rfl
      · split <;> rfl
    refine ⟨?_, ?_, ?_, ?_, ?_, ?_, ⟨Int.le_refl _, Int.le_refl _⟩, Nat.zero_le _, fun _ => ⟨rfl, rfl⟩⟩
    · intro x hx
      by_cases h0 : x = 0
      · exact .inr (.inl h0)
      · by_cases h1 : x = 1
        · exact .inl h1
        · simp only [Us] at hx
          rw [hn, if_neg h0, if_neg h1] at hx
          exact nomatch hx
    · intro x hx; simp only [De] at hx; rw [nd] at hx; cases hx
    · intro x hx; simp only [De] at hx; rw [nd] at hx; cases hx
    · intro x hx
      left
      simp only [Ho, Us] at hx ⊢
      rw [hn] at hx ⊢
      by_cases h0 : x = 0
      · rw [if_pos h0]; rfl
      · rw [if_neg h0] at hx ⊢
        by_cases h1 : x = 1
        · rw [if_pos h1]; rfl
        · rw [if_neg h1] at hx; exact nomatch hx
    · intro i j t u x hi _ hf _
      have : t = PThread.zero := (List.mem_replicate.1 (List.mem_of_getElem? hi)).2
      rw [this] at hf; exact nomatch hf.1
    · rintro x ⟨n, h, _⟩; cases h
  · intro i t ht
    have htz : t = PThread.zero := (List.mem_replicate.1 (List.mem_of_getElem? ht)).2
    subst htz
    have nb : ∀ {p : Prop}, PThread.zero.busy = true → p := fun b => nomatch b
    refine Th.of6 nb nb nb nb rfl nb ?_ nb nb nb nb nb nb nb nb nb nb nb
    intro x hx
    constructor
    · intro h
      exfalso
      simp only [Ho, Us] at h hx
      rw [hn] at h hx
      by_cases h0 : x = 0
      · rw [if_pos h0] at h
        have : (-1 : Int) = i := h
        omega
      · rw [if_neg h0] at h hx
        by_cases h1 : x = 1
        · rw [if_pos h1] at h
          have : (-1 : Int) = i := h
          omega
        · rw [if_neg h1] at hx; exact nomatch hx
    · rintro ⟨h, _⟩; exact nomatch h
/-! ### What is kept, for Ends -/
theorem count_flip {α : Type} (p : α → Bool) : ∀ {l : List α} {k : Nat} {x : α} (y : α), l[k]? = some x → count p l + (if p y then 1 else 0) = count p (l.set k y) + (if p x then 1 else 0)
  | [], k, x, y, h => by simp at h
  | z :: r, 0, x, y, h => by
    simp at h; subst h
    unfold count
    rw [List.set_cons_zero, List.filter_cons, List.filter_cons]
    by_cases h1 : p z = true <;> by_cases h2 : p y = true <;> simp [h1, h2] <;> omega
  | z :: r, k + 1, x, y, h => by
    have ih := count_flip p (l := r) (k := k) (x := x) y (by simpa using h)
    unfold count at *
    rw [List.set_cons_succ, List.filter_cons, List.filter_cons]
    by_cases h1 : p z = true
    · simp only [h1, if_true, List.length_cons]; omega
    · simp only [h1, if_false, Bool.false_eq_true]; exact ih
theorem greatest_le (B : Int) : ∀ (l : List (Int × Int)) (m : Int), m ≤ B → (∀ p ∈ l, p.2 ≤ B) → l.foldl (fun m p => if p.2 > m then p.2 else m) m ≤ B
  | [], m, hm, _ => hm
  | p :: l, m, hm, h => by
    rw [List.foldl_cons]
    refine greatest_le B l _ ?_ (fun q hq => h q (by simp [hq]))
    have := h p (by simp)
    split <;> omega
theorem spansOkX_hi : ∀ (l : List (Int × Int)), spansOkX l = true → ∀ p ∈ l, p.2 ≤ 1099511627776
  | [], _, p, hp => by cases hp
  | q :: l, h, p, hp => by
    unfold spansOkX at h
    simp only [Bool.and_eq_true, isIn_iff, decide_eq_true_eq] at h
    rcases List.mem_cons.1 hp with rfl | hp
    · have := h.2.1.2; omega
    · exact spansOkX_hi l h.2.2.2 p hp
theorem newWork_ok {kd ky va : Int} {sp : List (Int × Int)} (h : properB kd ky sp = true) : (newWork kd ky va sp).next = 1 ∧ (newWork kd ky va sp).kind = kd ∧ (kd = 1 ∨ kd = 2 ∨ kd = 3 ∨ kd = 4) ∧ (newWork kd ky va sp).locks = 0 ∧ (newWork kd ky va sp).made = [] ∧ (kd ≠ 4 → 0 ≤ (newWork kd ky va sp).key ∧ (newWork kd ky va sp).key ≤ 1099511627776 ∧ (newWork kd ky va sp).key = ky) ∧ (kd = 4 → greatestHi (newWork kd ky va sp).spans ≤ 1099511627776 ∧ (newWork kd ky va sp).links = [(0, false)] ∧ (newWork kd ky va sp).spans = sp) ∧ (kd ≠ 4 → (newWork kd ky va sp).links = []) ∧ (kd = 1 → (newWork kd ky va sp).value = va) := by
  have h0 : checkOp kd ky sp = 0 := of_decide_eq_true h
  unfold checkOp at h0
  by_cases h1 : kd = 1 ∨ kd = 2 ∨ kd = 3
  · rw [if_pos h1] at h0
    have hk : isIn ky 0 (2 ^ 40) = true := by
      cases hh : isIn ky 0 (2 ^ 40)
      · rw [hh] at h0; exact absurd h0 (by decide)
      · rfl
    rw [isIn_iff] at hk
    rcases h1 with e | e | e <;> subst e <;> simp [newWork, PWork.zero] <;> omega
  · rw [if_neg h1] at h0
    by_cases h4 : kd = 4
    · subst h4
      rw [if_pos rfl] at h0
      have hk : (isIn sp.length 1 16 && spansOkX sp) = true := by
        cases hh : (isIn sp.length 1 16 && spansOkX sp)
        · rw [hh] at h0; exact absurd h0 (by decide)
        · rfl
      rw [Bool.and_eq_true] at hk
      refine ⟨rfl, rfl, .inr (.inr (.inr rfl)), rfl, rfl, fun e => absurd rfl e, fun _ => ⟨?_, rfl, rfl⟩, fun e => absurd rfl e, fun e => by cases e⟩
      show greatestHi sp ≤ _
      exact greatest_le _ sp 0 (by decide) (spansOkX_hi sp hk.2)
    · rw [if_neg h4] at h0; exact absurd h0 (by decide)
structure EndJ (T N E L : Int) (D : PlD) : Prop where
  inv : ∃ C, Inv C D.P
  len : D.P.mem.ns.length = N.toNat + 2
  ok : D.ok
  cfg : D.k = 0 ∧ D.t = T ∧ D.n = N ∧ D.e = E ∧ D.l = L
  cnt : D.puts + D.takes ≤ D.deeds.length + count bu D.P.ts
section
variable {D D' : PlD} {i : Nat} {t : PThread} {o : OpV} {T N E L : Int}
theorem ok_begin (hok : D.ok) (hB : Begun D i t o D') : D'.ok := by
  have hok' : D.bs = D.P.ts.map (·.busy) := hok
  show D'.bs = D'.P.ts.map (·.busy)
  by_cases hh : t.busy = true ∨ properB o.kind o.key o.spans = false
  · obtain ⟨q1, q2, _⟩ := hB.no hh
    rw [q1, q2]; exact hok'
  · simp only [not_or, Bool.not_eq_true, Bool.not_eq_false] at hh
    obtain ⟨q1, q2, _⟩ := hB.yes hh.1 hh.2
    rw [q1, q2, hok']
    unfold PSt.setT
    rw [List.map_set]
theorem cfg_trans {a b : PlD} (h : b.k = a.k ∧ b.t = a.t ∧ b.n = a.n ∧ b.e = a.e ∧ b.l = a.l) (g : a.k = 0 ∧ a.t = T ∧ a.n = N ∧ a.e = E ∧ a.l = L) : b.k = 0 ∧ b.t = T ∧ b.n = N ∧ b.e = E ∧ b.l = L := by
  obtain ⟨a1, a2, a3, a4, a5⟩ := h
  obtain ⟨b1, b2, b3, b4, b5⟩ := g
  exact ⟨a1.trans b1, a2.trans b2, a3.trans b3, a4.trans b4, a5.trans b5⟩
theorem inv_begin {C : Int → Prop} (h : Inv C D.P) (ht : D.P.ts[i]? = some t) (hB : Begun D i t o D') : Inv C D'.P ∧ D'.P.mem = D.P.mem := by
  by_cases hh : t.busy = true ∨ properB o.kind o.key o.spans = false
  · obtain ⟨q1, _⟩ := hB.no hh
    rw [q1]; exact ⟨h, rfl⟩
  · simp only [not_or, Bool.not_eq_true, Bool.not_eq_false] at hh
    obtain ⟨q1, _⟩ := hB.yes hh.1 hh.2
    rw [q1]
    obtain ⟨w1, w2, w3, w4, w5, w6, w7, w8, _⟩ := newWork_ok (va := o.value) hh.2
    exact ⟨h.begin ht hh.1 w1 (by rw [w2]; exact w3) w4 w5 (fun e => by rw [w2] at e; exact ⟨(w6 e).1, (w6 e).2.1⟩) (fun e => by rw [w2] at e; exact ⟨(w7 e).1, (w7 e).2.1⟩) (fun e => by rw [w2] at e; exact w8 e), rfl⟩
theorem ends_plays : Plays 0 T N E L (EndJ T N E L) := by
  refine ⟨fun h => h.inv, fun h => h.len, fun h => h.ok, fun h => h.cfg, ?_, ?_, ?_, fun _ h => by omega⟩
  · intro D D' i t h hfit ht hb _ hs
    obtain ⟨C, hC⟩ := h.inv
    refine ⟨⟨nextC C t, by rw [hs.P]; exact hC.step ht hb⟩, by rw [hs.P, step_len hC.kind]; exact h.len, ok_step hC.kind h.ok ht hb hs, cfg_trans hs.cfg h.cfg, ?_⟩
    obtain ⟨t', h1, h2, h3⟩ := step_work hC.kind ht hb
    have hc := count_flip bu t' ht
    have hold := h.cnt
    rw [hs.cnt.1, hs.cnt.2, hs.P, h1]
    by_cases e : (D.P.step i t).2 = 3
    · obtain ⟨av, oo, ff, _, _, hd⟩ := hs.deeds.2 e
      rw [hd, List.length_append]
      simp only [List.length_singleton]
      have hbf : bu t' = false := by unfold bu; rw [h2 e]; rfl
      rw [hbf] at hc
      simp only [Bool.false_eq_true, if_false] at hc
      split at hc <;> omega
    · rw [hs.deeds.1 e]
      obtain ⟨b1, b2, _⟩ := h3 e
      have : bu t' = bu t := by unfold bu; rw [b1, hb, b2.1]
      rw [this] at hc
      omega
  · intro D D' i t o h ht _ hB
    obtain ⟨C, hC⟩ := h.inv
    obtain ⟨g1, g2⟩ := inv_begin hC ht hB
    refine ⟨⟨C, g1⟩, by rw [g2]; exact h.len, ok_begin h.ok hB, cfg_trans hB.cfg h.cfg, ?_⟩
    have hold := h.cnt
    rw [hB.deeds]
    by_cases hh : t.busy = true ∨ properB o.kind o.key o.spans = false
    · obtain ⟨q1, _, _, _, q5, q6⟩ := hB.no hh
      rw [q1, q5, q6]; exact hold
    · simp only [not_or, Bool.not_eq_true, Bool.not_eq_false] at hh
      obtain ⟨q1, _, _, _, q5, q6⟩ := hB.yes hh.1 hh.2
      rw [q1, q5, q6]
      obtain ⟨_, w2, _⟩ := newWork_ok (va := o.value) hh.2
      have hc := count_flip bu { t with busy := true, work := newWork o.kind o.key o.value o.spans } ht
      have hbt : bu t = false := by unfold bu; rw [hh.1]; rfl
      have hbt' : bu { t with busy := true, work := newWork o.kind o.key o.value o.spans } = decide (o.kind = 1 ∨ o.kind = 2) := by
        unfold bu; simp only [Bool.true_and]; rw [w2]
      rw [hbt, hbt'] at hc
      simp only [Bool.false_eq_true, if_false, decide_eq_true_eq, Nat.add_zero] at hc
      show D.puts + (if o.kind = 1 then 1 else 0) + (D.takes + (if o.kind = 2 then 1 else 0)) ≤ D.deeds.length + (count bu (D.P.ts.set i { t with busy := true, work := newWork o.kind o.key o.value o.spans }) : Nat)
      by_cases e1 : o.kind = 1
      · rw [if_pos (.inl e1)] at hc
        rw [if_pos e1, if_neg (by omega)]; omega
      · rw [if_neg e1]
        by_cases e2 : o.kind = 2
        · rw [if_pos (.inr e2)] at hc
          rw [if_pos e2]; omega
        · rw [if_neg (by rintro (e | e); exact e1 e; exact e2 e)] at hc
          rw [if_neg e2]; omega
  · intro D L' h
    obtain ⟨C, hC⟩ := h.inv
    refine ⟨⟨C, hC.sweep⟩, by rw [sweep_len]; exact h.len, ?_, h.cfg, ?_⟩
    · show D.bs = D.P.doSweep.1.ts.map (·.busy)
      rw [sweep_ts]; exact h.ok
    · show D.puts + D.takes ≤ D.deeds.length + (count bu D.P.doSweep.1.ts : Nat)
      rw [sweep_ts]; exact h.cnt
theorem ends_fresh (hE : 1 ≤ E) (h : FreshPl T N E L D) : EndJ T N E L D := by
  obtain ⟨h1, h2⟩ := inv_fresh (T := T) (N := N) (L := L) hE
  refine ⟨⟨_, by rw [h.P]; exact h1⟩, by rw [h.P]; exact h2, h.ok, h.cfg, ?_⟩
  rw [h.cnt.1, h.cnt.2]
  omega
/-- In the end all that was begun has ended. -/
theorem EndJ.all (h : EndJ T N E L D) (hs : Still 0 D) : D.puts + D.takes ≤ D.deeds.length := by
  have := h.cnt
  have hz : count bu D.P.ts = 0 := by
    unfold count
    rw [List.filter_eq_nil_iff.2]
    · rfl
    · intro t ht
      obtain ⟨j, hj⟩ := List.mem_iff_getElem?.1 ht
      unfold bu
      rw [hs j t (Nat.zero_le _) hj]; simp
  rw [hz] at this
  omega
end
end Go.Proofs.YtfccelbmacjifaaGreat

set_option linter.unusedSimpArgs false
namespace Go.Proofs.YtfccelbmacjifaaGreat
open Go.RowKit
/-- A store on which some acts were played. -/
def PlOn (W w : World) (pb : Nat) (Q : PlD → Prop) : Prop := ∃ own D, PlAt own 1 w pb D ∧ Ext own00 own W ∧ Fr (fun _ => False) W w ∧ Q D
section
variable {W w w1 : World} {own : Own} {pb : Nat} {D : PlD} {f b : Nat} {J Q : PlD → Prop} {T Nn E L : Int}
theorem PlOn.goes (hE : Ext own00 own W) (hF : Fr (fun _ => False) W w) (h : PlGoes own 1 w pb w1 Q) : PlOn W w1 pb Q := by
  obtain ⟨own1, D1, h1, h2, h3, h4⟩ := h
  refine ⟨own1, D1, h1, Ext.trans hE h2 hF.size, ?_, h4⟩
  refine Fr.transNew hF h3 ?_
  intro k hk
  right
  rcases Nat.lt_or_ge k W.heap.size with hlt | hge
  · rw [hE k hlt] at hk
    simp [own00] at hk
  · exact hge
theorem PlOn.mono {Q' : PlD → Prop} (h : PlOn W w pb Q) (hq : ∀ D, Q D → Q' D) : PlOn W w pb Q' := by
  obtain ⟨own, D, h1, h2, h3, h4⟩ := h
  exact ⟨own, D, h1, h2, h3, hq D h4⟩
set_option maxHeartbeats 2000000 in
set_option maxRecDepth 100000 in
theorem played_calls (hJ : Plays f T Nn E L J) (hfr : ∀ D, FreshPl T Nn E L D → J D) (hok : okCfg 0 T Nn E L = true) (hf : (f : Int) < T) (W : World) (sa : Option Addr) (c : Nat) (acts : List ActD) (hlen : acts.length ≤ 2 ^ 20) (hacts : ∀ i a, acts[i]? = some a → ActIn W sa i a ∧ a.sn ≤ 2 ^ 20) :
    Calls Tryz.prog 47 #[cfg 0 T Nn E L, .slice sa acts.length c, .int .i64 f] W fun r W' => ∃ pb, r = .returned (pv pb) ∧ PlOn W W' pb (fun D => J D ∧ Sz (400 * acts.length) D) := by
  have HJ := (show Hid (Plays f T Nn E L J ∧ (f : Int) < T) from ⟨hJ, hf⟩)
  have HFr := (show Hid (∀ D, FreshPl T Nn E L D → J D) from hfr)
  have HOk := (show Hid (okCfg 0 T Nn E L = true) from hok)
  have HAc := (show Hid (∀ i a, acts[i]? = some a → ActIn W sa i a ∧ a.sn ≤ 2 ^ 20) from hacts)
  clear hJ hfr hok hf hacts
  have HPl := (show Hid (∀ w, Calls Tryz.prog 40 #[cfg 0 T Nn E L] w _) from fun w => player_calls T Nn E L w own00 1 HOk.out)
  unfold cfg at HPl ⊢
  go_enter Tryz.func47, Tryz.ntmps47
  go_wp2_with fail
  refine Calls.mono (HPl.out _) ?_
  rintro r w2 ⟨pb, rfl, own, D, hP, hE0, hD, hF2⟩
  have HOn := (show Hid (PlOn W w2 pb (fun D => J D ∧ Sz (400 * 0) D)) from by
    refine ⟨own, D, hP, fun k hk => hE0 k (Nat.lt_of_lt_of_le hk ((Fr.refl (fun _ => False) W).alloc _).size), ((Fr.refl _ _).alloc _).trans hF2, HFr.out D hD, ?_⟩
    unfold Sz
    rw [hD.N, hD.deeds, hD.cnt.1, hD.cnt.2]
    simp)
  clear hP hE0 hD hF2 HPl HOk
  unfold pv
  go_wp2
  go_loopw [8] (fun v wr => ∃ j : Nat, j ≤ acts.length ∧ v = .int .i64 j ∧ Hid (PlOn W wr pb (fun D => J D ∧ Sz (400 * j) D))) (fun v _ => acts.length - (intOf v).toNat)
  case atStart => exact ⟨0, by omega, rfl, HOn⟩
  case round =>
    clear HOn
    obtain ⟨j, hj, rfl, HOn⟩ := hrel
    by_cases hlt : j < acts.length
    · obtain ⟨own1, D1, hP1, hE1, hF1, hj1, hS1⟩ := HOn.out
      have hx : acts[j]? = some acts[j] := List.getElem?_eq_getElem hlt
      obtain ⟨hai, hasn⟩ := HAc.out j _ hx
      generalize acts[j] = a at hx hai hasn
      obtain ⟨ab, off, rfl, hcl, hsp, hmm, htt⟩ := hai.keep hF1
      have HAct := (show Hid (Calls _ _ _ _ _) from Pact_calls HJ.out.1 hP1 hj1 hS1 (by omega) HJ.out.2 a hsp hasn hmm htt)
      have HX := (show Hid (Ext own00 own1 W ∧ Fr (fun _ => False) W wr) from ⟨hE1, hF1⟩)
      have c0 := hcl 0 _ rfl
      have c1 := hcl 1 _ rfl
      have c2 := hcl 2 _ rfl
      have c3 := hcl 3 _ rfl
      have c4 := hcl 4 _ rfl
      have c5 := hcl 5 _ rfl
      have c6 := hcl 6 _ rfl
      obtain ⟨kd, tt, o, ky, va, m, psa, psn, psc, sps⟩ := a
      simp only [Nat.add_zero, ← Nat.add_assoc] at c0 c1 c2 c3 c4 c5 c6
      unfold pv actVal at HAct
      simp only at HAct
      clear hP1 hE1 hF1 hj1 hS1 hx hai hasn hcl hsp hmm htt HOn
      go_wp2_with fail
      refine Calls.mono HAct.out ?_
      rintro r w4 ⟨rfl, hg⟩
      have HOn2 := (show Hid (PlOn W w4 pb (fun D => J D ∧ Sz (400 * (j + 1)) D)) from PlOn.goes HX.out.1 HX.out.2 hg)
      clear hg HAct c0 c1 c2 c3 c4 c5 c6
      go_wp2
      go_roundw
      case rel => exact ⟨j + 1, by omega, by go_num, HOn2⟩
      case measure => simp [intOf]; omega
    · have hje : Hid (j = acts.length) := by show j = acts.length; omega
      have HR := (show Hid (PlOn W wr pb (fun D => J D ∧ Sz (400 * acts.length) D)) from by rw [← hje.out]; exact HOn.out)
      clear HOn
      go_wp2
      go_ret
      exact ⟨pb, rfl, HR.out⟩
set_option maxHeartbeats 2000000 in
set_option maxRecDepth 100000 in
theorem lends_calls (k t n e l : Int) (W : World) (sa : Option Addr) (c : Nat) (acts : List ActD) (rt : rawI t) (rn : rawI n) (re : rawI e) (rl : rawI l) (hlen : acts.length ≤ 2 ^ 20) (hacts : ∀ i a, acts[i]? = some a → ActIn W sa i a ∧ a.sn ≤ 2 ^ 20) :
    Calls Tryz.prog 21 #[cfg k t n e l, .slice sa acts.length c, .int .i64 0] W fun r W' => r = .returned (.bool true) ∧ Fr (fun _ => False) W W' := by
  obtain ⟨hok, hT1⟩ := cfg_ok 0 1 t n e l (.inl rfl) (.inl rfl)
  have HCf := (show Hid (∀ w, Calls Tryz.prog 41 #[cfg k t n e l, .int .i64 0, .int .i64 1] w _) from fun w => config_calls k t n e l 0 1 w rt rn re rl (.inl rfl))
  generalize cT 1 t = T at *
  generalize cN n = N at *
  generalize cE e = E at *
  generalize cL l = L at *
  have hb : (1 ≤ T ∧ T ≤ 8) ∧ (0 ≤ N ∧ N ≤ 64) ∧ 1 ≤ E := by
    simp only [okCfg, Bool.and_eq_true, isIn_iff] at hok
    omega
  have HB := (show Hid ((1 ≤ T ∧ T ≤ 8) ∧ (0 ≤ N ∧ N ≤ 64) ∧ 1 ≤ E) from hb)
  have HPd := (show Hid (∀ w, Fr (fun _ => False) W w → Calls Tryz.prog 47 #[cfg 0 T N E L, .slice sa acts.length c, .int .i64 ((0 : Nat) : Int)] w fun r W' => ∃ pb, r = .returned (pv pb) ∧ PlOn w W' pb (fun D => EndJ T N E L D ∧ Sz (400 * acts.length) D)) from
    fun w hw => played_calls ends_plays (fun D hD => ends_fresh hb.2.2 hD) hok (by omega) w sa c acts hlen (fun i a ha => ⟨(hacts i a ha).1.keep hw, (hacts i a ha).2⟩))
  clear hok hacts hb rt rn re rl hT1
  unfold cfg at HCf HPd ⊢
  simp only [Int.ofNat_zero, Int.natCast_zero] at HPd
  go_enter Tryz.func21, Tryz.ntmps21
  go_wp2_with fail
  refine Calls.mono (HCf.out _) ?_
  rintro r w1 ⟨rfl, hF1⟩
  have HF1 := (show Hid (Fr (fun _ => False) W w1) from ((Fr.refl _ _).alloc _).trans hF1)
  clear hF1 HCf
  go_wp2_with fail
  refine Calls.mono (HPd.out w1 HF1.out) ?_
  rintro r w2 ⟨pb, rfl, hOn⟩
  have HOn := (show Hid (PlOn w1 w2 pb (fun D => EndJ T N E L D ∧ Sz (400 * acts.length) D)) from hOn)
  clear hOn HPd
  obtain ⟨own, D, hP, hE, hF, hj, hS⟩ := HOn.out
  have HC := (show Hid (Calls _ _ _ _ _) from Pfinish_calls (f := 0) ends_plays hP hj hS (by omega) (by have := HB.out.1; omega) HB.out.2.1)
  have HX := (show Hid (Ext own00 own w1 ∧ Fr (fun _ => False) w1 w2) from ⟨hE, hF⟩)
  clear hP hE hF hj hS HOn
  unfold pv at HC ⊢
  simp only [Int.ofNat_zero, Int.natCast_zero] at HC
  go_wp2_with fail
  refine Calls.mono HC.out ?_
  rintro r w3 ⟨rfl, hg⟩
  obtain ⟨own3, D3, hP3, hE3, hF3, hj3, hS3, hst⟩ := PlOn.goes HX.out.1 HX.out.2 hg
  have hall := hj3.all hst
  have ha := hP3.at_.cell
  obtain ⟨da, dc, hdv⟩ := ownsShape hP3.deeds.row
  simp only [PlD.cells, hdv, pv] at ha
  have HR := (show Hid (Fr (fun _ => False) W w3) from HF1.out.trans hF3)
  have hsz := hS3
  unfold Sz at hsz
  clear hP3 hE3 hF3 hj3 hS3 hst hg hdv HC
  go_wp2_with fail
  go_region
  go_wp2
  go_ret
  refine ⟨?_, HR.out.trans ((Fr.refl _ _).drew)⟩
  simp
theorem ends_any : LawHolds 10 := by
  intro k t n e l W sa c acts rt rn re rl hlen hacts
  have HA := (show Hid (Calls Tryz.prog 21 #[cfg k t n e l, .slice sa acts.length c, .int .i64 0] (W.alloc (.cells #[.int .i64 k, .int .i64 t, .int .i64 n, .int .i64 e, .int .i64 l] 23)) _) from lends_calls k t n e l _ sa c acts rt rn re rl hlen (fun i a ha => ⟨(hacts i a ha).1.keep ((Fr.refl _ _).alloc _), (hacts i a ha).2⟩))
  clear hacts
  unfold cfg at HA ⊢
  go_enter Tryz.func10, Tryz.ntmps10
  go_wp2_with fail
  refine Calls.mono HA.out ?_
  rintro r w1 ⟨rfl, hF1⟩
  have HF1 := (show Hid (Fr (fun _ => False) W w1) from ((Fr.refl _ _).alloc _).trans hF1)
  clear hF1 HA
  go_wp2
  go_ret
  exact ⟨rfl, HF1.out⟩
end
end Go.Proofs.YtfccelbmacjifaaGreat

set_option linter.unusedSimpArgs false
namespace Go.Proofs.YtfccelbmacjifaaGreat
open Go.ChangeShapes Go.WideShapes Go.ChangeAt Go.RowKit Go.Joins Go.Deep
set_option maxRecDepth 100000 in
theorem ends_contract (hany : LawHolds 10) (H : Type) (enc : TypeId × Value → H) (W : World) (base : Nat) (args : Array Value) (ds gs : List (DataW H)) (before : List MemPlace)
    (hval0 : ∀ (j : Nat) t v, Tryz.f10.params[j]? = some t → args[j]? = some v → Value.okWide Tryz.prog W .any base t v)
    (hW : DataW.Whole enc Tryz.prog Tryz.f10.params.toList Rows.endsSpec.vars false W args.toList ds gs before) (hk : Rows.uptoSmall H (ds ++ gs) = true) :
    Calls Tryz.prog 10 args W fun e W' => ∃ v, e = .returned v ∧ Rows.endsSpec.post enc Tryz.prog Tryz.f10 false true false false W args v W' := by
  have hval : ∀ (j : Nat) t v, Tryz.f10.params[j]? = some t → args[j]? = some v → Value.okWide Tryz.prog W .any base t v := hval0
  have hW' := hW
  obtain ⟨p, q, hA0, hV, rfl, _, _⟩ := hW
  have hA : DataW.TrodAll enc Tryz.prog W 0 (fun _ => true) true Tryz.f10.params.toList args.toList ds p := hA0
  rw [Tryz.params10] at hA hval
  obtain ⟨v0, vs0, d0, ds0, p0, q0, hargs, rfl, rfl, h0, r0⟩ := trodAll_cons hA
  obtain ⟨v1, vs1, d1, ds1, p1, q1, hargs1, rfl, rfl, h1, r1⟩ := trodAll_cons r0
  obtain ⟨rfl, rfl, rfl⟩ := trodAll_nil r1
  obtain rfl : args = #[v0, v1] := by cases args; simp_all
  obtain ⟨rfl, rfl⟩ := trodVars_none hV
  have k0 := h0
  have k1 := h1
  have lt0 : ∀ x ∈ p0, x.block < W.heap.size := by obtain ⟨m, hm⟩ := k0; exact DataW.trod_lt m _ _ _ hm
  have lt1 : ∀ x ∈ p1, x.block < W.heap.size := by obtain ⟨m, hm⟩ := k1; exact DataW.trod_lt m _ _ _ hm
  obtain ⟨k, t, n, e, l, rfl, rt, rn, re, rl⟩ := cfg_open (hval 0 23 v0 rfl rfl) h0
  obtain ⟨sa, m, c, acts, rfl, hm, hl, hacts⟩ := acts_open (hval 1 24 v1 rfl rfl) h1
  have hb : Rows.uptoBulk d1 ≤ 2 ^ 20 := by
    have h : Rows.uptoBulkAll ([d0, d1] ++ []) ≤ 1048576 := of_decide_eq_true hk
    simp only [List.cons_append, List.nil_append, Rows.uptoBulkAll] at h
    omega
  clear hA0 hval0
  subst hl
  refine (hany k t n e l W sa c acts rt rn re rl (Nat.le_trans hm hb) (fun i a ha => ⟨(hacts i a ha).1, Nat.le_trans (hacts i a ha).2 hb⟩)).mono fun r W' ⟨he, hf⟩ => ?_
  subst he
  have bel : Below W.heap.size W W' := hf.below (fun _ _ h => h)
  exact ⟨_, rfl, _, _, _, [], _, [], hW', trodAll_mk1 (shut_bool Tryz.underlying4 _), trodAll_cons_mk (Below.trod Tryz.laidOut (by kernel_rfl) (of_decide_eq_true (by kernel_rfl)) k0 bel lt0) (trodAll_cons_mk (Below.trod Tryz.laidOut (by kernel_rfl) (of_decide_eq_true (by kernel_rfl)) k1 bel lt1) trodAll_mk0), rfl, bel.frame _, fun h => by cases h⟩

set_option maxRecDepth 100000 in
theorem ends_lifted (hany : LawHolds 10) (os : Os) (started : os.Started) (H : Type) (enc : TypeId × Value → H) (F : Stop.Interp) :
    ReturnsInHanded {} Tryz.checked os 10 .any ((Rows.OpenSpec.upto Rows.endsSpec).pre6 enc Tryz.prog Tryz.f10 Rows.endsUptoRow.domain false) (((Rows.OpenSpec.upto Rows.endsSpec).at F).post enc Tryz.prog Tryz.f10 false true false false) := by
  refine returnsInHanded_of_cond (C := Tryz.checked) (s := Rows.OpenSpec.upto Rows.endsSpec) (k := Rows.uptoSmall) rfl Tryz.own started (by kernel_rfl) Tryz.func10
    (OpenSpec.witness (enc := enc) (C := Tryz.checked) (s := Rows.OpenSpec.upto Rows.endsSpec) (k := Rows.uptoSmall) rfl false ⟨#[], #[.agg #[.int .i64 0, .int .i64 0, .int .i64 0, .int .i64 0, .int .i64 0], .slice none 0 0], []⟩ 8 (by kernel_rfl) (by kernel_rfl) (by kernel_rfl)
      (x := ([.agg [.lit (.int .i64 0), .lit (.int .i64 0), .lit (.int .i64 0), .lit (.int .i64 0), .lit (.int .i64 0)], .nil], [], [])) (by kernel_rfl) rfl (by kernel_rfl)) ?_
  intro W base args ds gs before hval hW _ hk _
  exact ends_contract hany H enc W base args ds gs before hval hW hk

theorem ends_frame (hany : LawHolds 10) : Rows.EndsUptoSaid :=
  OpenClaim.holds_of_cond 10 Tryz.f10 rfl rfl rfl rfl rfl rfl rfl ⟨rfl, rfl, rfl, rfl, rfl⟩ rfl rfl rfl rfl rfl (by kernel_rfl) Tryz.func10 (by kernel_rfl)
    (of_decide_eq_true (by kernel_rfl)) (by unfold Func.isWrapper; first | (rw [if_pos (by decide +kernel)]; kernel_rfl) | (rw [if_neg (by decide +kernel)]; exact ⟨rfl, rfl⟩))
    (fun os started H enc _ F => ends_lifted hany os started H enc F)
end Go.Proofs.YtfccelbmacjifaaGreat

namespace Go.Proofs.YtfccelbmacjifaaGreat
theorem ends_holds : Rows.EndsUptoSaid := ends_frame ends_any
#print axioms ends_holds
end Go.Proofs.YtfccelbmacjifaaGreat

