import Derived.Test.YtfccelbmacjifaaGreatP7
set_option linter.unusedSimpArgs false
namespace Go.Proofs.YtfccelbmacjifaaGreat
section
variable {C C' : Int → Prop} {M M' M2 : PMem} {c c' : Int} {r r' : PSweep} {i j : Nat} {t t' u : PThread} {ts : List PThread} {P : PSt} {x : Int} {k : PWork}
theorem step_mid (P : PSt) (h4 : 4 ≤ t.work.next) (h12 : t.work.next ≤ 12) : P.step i t = if t.work.kind = 3 ∨ t.work.kind = 4 then P.read i t.work else P.update i t.work := by
  unfold PSt.step
  split <;> first | (rename_i hh; omega) | rfl
/-- Who neither wants a lock nor reads a link goes on. -/
theorem Inv.moves (h : Inv C P) (ht : P.ts[i]? = some t) (hb : t.busy = true) (hn : ¬ (t.work.next = 5 ∧ (t.work.kind = 1 ∨ t.work.kind = 2))) (hr : ¬ (t.work.next = 4 ∧ (t.work.kind = 3 ∨ t.work.kind = 4))) : (P.step i t).2 ≠ 2 := by
  have hT := h.th i t ht
  have hnx := hT.nx hb
  have hkd := hT.kd hb
  have hrd := hT.rd hb
  rcases (show t.work.next = 1 ∨ t.work.next = 2 ∨ t.work.next = 3 ∨ t.work.next = 13 ∨ (4 ≤ t.work.next ∧ t.work.next ≤ 12) by omega) with hq | hq | hq | hq | hq
  · unfold PSt.step; simp only [hq]; decide
  · unfold PSt.step; simp only [hq]; decide
  · unfold PSt.step; simp only [hq]; decide
  · unfold PSt.step; simp only [hq]; decide
  · rw [step_mid P hq.1 hq.2]
    by_cases hk : t.work.kind = 3 ∨ t.work.kind = 4
    · have := hrd hk; omega
    · rw [if_neg hk]
      unfold PSt.update
      rcases (show t.work.next = 4 ∨ t.work.next = 6 ∨ t.work.next = 7 ∨ t.work.next = 8 ∨ t.work.next = 9 ∨ t.work.next = 10 ∨ t.work.next = 11 ∨ t.work.next = 12 by omega) with e | e | e | e | e | e | e | e <;> simp only [e] <;> decide
/-- Who waits, and for what. -/
theorem Inv.waits (h : Inv C P) (ht : P.ts[i]? = some t) (hb : t.busy = true) (hw : (P.step i t).2 = 2) : (P.step i t).1 = P ∧ ((t.work.next = 5 ∧ (t.work.kind = 1 ∨ t.work.kind = 2) ∧ Ho P.mem (lockNext t.work) ≠ -1) ∨ ∃ x d, d ∈ Pd P.mem x) := by
  by_cases hn : t.work.next = 5 ∧ (t.work.kind = 1 ∨ t.work.kind = 2)
  · have hs : P.step i t = P.lock i t.work := by
      rw [step_mid P (by omega) (by omega), if_neg (by omega)]
      unfold PSt.update
      simp only [hn.1]
    rw [hs] at hw ⊢
    rcases h.lock ht hb hn.1 with ⟨_, q, _⟩ | ⟨q1, q2⟩
    · rw [q] at hw; exact absurd (show (1 : Int) = 2 from hw) (by decide)
    · rw [q2]; exact ⟨rfl, .inl ⟨hn.1, hn.2, q1⟩⟩
  · by_cases hr : t.work.next = 4 ∧ (t.work.kind = 3 ∨ t.work.kind = 4)
    · have hs : P.step i t = P.read i t.work := by rw [step_mid P (by omega) (by omega), if_pos hr.2]
      obtain ⟨x, h1, _⟩ := h.linkIs ht hb hr.1 hr.2
      rw [hs] at hw ⊢
      unfold PSt.read at hw ⊢
      rw [h1] at hw ⊢
      simp only at hw ⊢
      by_cases hp : P.mem.hasPending x false = true
      · rw [if_pos hp]
        refine ⟨rfl, .inr ⟨x, ?_⟩⟩
        have := hasPd_iff.1 hp
        cases hd : Pd P.mem x with
        | nil => exact absurd hd this
        | cons d l => exact ⟨d, by simp⟩
      · rw [if_neg hp] at hw; exact absurd (show (1 : Int) = 2 from hw) (by decide)
    · exact absurd hw (h.moves ht hb hn hr)
theorem Inv.kyle (h : Inv C P) (hx : x = 1 ∨ Gd P.mem C x) (h0 : x ≠ 0) : 0 ≤ Ky P.mem x ∧ Ky P.mem x ≤ 1099511627777 := by
  rcases hx with rfl | hx
  · have := h.n.a1.2.2.2.2.2; omega
  · have := h.gd01 hx h0; omega
/-- The holder of a lock goes on, or waits for a lock farther on. -/
theorem Inv.holder (h : Inv C P) (ht : P.ts[i]? = some t) (hb : t.busy = true) (hn : t.work.next = 5) (hh : Ho P.mem (lockNext t.work) ≠ -1) :
    ∃ j u, P.ts[j]? = some u ∧ u.busy = true ∧ (u.work.kind = 1 ∨ u.work.kind = 2) ∧ ((P.step j u).2 ≠ 2 ∨ (u.work.next = 5 ∧ Ho P.mem (lockNext u.work) ≠ -1 ∧ lockNext u.work ≠ 0 ∧ (lockNext t.work ≠ 0 → Ky P.mem (lockNext t.work) < Ky P.mem (lockNext u.work)))) := by
  obtain ⟨_, _, l3, _, _, _, _⟩ := h.lockIs ht hb hn
  obtain ⟨j, hj, hjo⟩ := (h.o.ho _ l3).resolve_left hh
  have hju : P.ts[j]? = some P.ts[j] := List.getElem?_eq_getElem hj
  generalize P.ts[j] = u at hju
  have hU := h.th j u hju
  obtain ⟨ub, um⟩ := (hU.hd _ l3).1 hjo
  obtain ⟨_, _, ul, _⟩ := hU.heldUs ub um
  obtain ⟨u1, u2, u3⟩ := hU.mid ub ul
  refine ⟨j, u, hju, ub, u3, ?_⟩
  by_cases hmv : (P.step j u).2 = 2
  · right
    obtain ⟨_, w⟩ := h.waits hju ub hmv
    have hu5 : u.work.next = 5 := by
      by_cases e : u.work.next = 5
      · exact e
      · exact absurd hmv (h.moves hju ub (fun q => e q.1) (fun q => by omega))
    have hw5 : Ho P.mem (lockNext u.work) ≠ -1 := by
      have hs : P.step j u = P.lock j u.work := by
        rw [step_mid P (by omega) (by omega), if_neg (by omega)]
        unfold PSt.update
        simp only [hu5]
      rw [hs] at hmv
      rcases h.lock hju ub hu5 with ⟨_, q, _⟩ | ⟨q1, q2⟩
      · rw [q] at hmv; exact absurd (show (1 : Int) = 2 from hmv) (by decide)
      · exact q1
    have hl1 : u.work.locks = 1 := by
      have := hU.l5 ub hu5
      have := (wl_pos P.mem u.work).2
      omega
    have hln : lockNext u.work = u.work.ahead := by unfold lockNext; rw [if_neg (by omega)]
    rw [hl1] at um
    have hst : lockNext t.work = u.work.stand := by simpa using um
    obtain ⟨_, _, x3⟩ := hU.xs ub (by omega) (by omega) u2
    obtain ⟨_, _, c3, c4⟩ := hU.cs ub (by omega) u2
    refine ⟨hu5, hw5, by rw [hln]; exact c3, ?_⟩
    intro h0
    rw [hln, hst]
    rw [hst] at h0
    have := x3.resolve_left h0
    omega
  · exact .inl hmv
theorem Inv.chase (h : Inv C P) : ∀ (m i : Nat) (t : PThread), P.ts[i]? = some t → t.busy = true → t.work.next = 5 → Ho P.mem (lockNext t.work) ≠ -1 → lockNext t.work ≠ 0 → (1099511627777 - Ky P.mem (lockNext t.work)).toNat ≤ m → ∃ j u, P.ts[j]? = some u ∧ u.busy = true ∧ (P.step j u).2 ≠ 2 ∧ (u.work.kind = 1 ∨ u.work.kind = 2)
  | 0, i, t, ht, hb, hn, hh, h0, hm => by
    obtain ⟨j, u, hj, ub, uk, q | ⟨q1, q2, q3, q4⟩⟩ := h.holder ht hb hn hh
    · exact ⟨j, u, hj, ub, q, uk⟩
    · exfalso
      have h1 := h.kyle (h.lockIs ht hb hn).2.2.2.1 h0
      have h2 := h.kyle (h.lockIs hj ub q1).2.2.2.1 q3
      have := q4 h0
      omega
  | m + 1, i, t, ht, hb, hn, hh, h0, hm => by
    obtain ⟨j, u, hj, ub, uk, q | ⟨q1, q2, q3, q4⟩⟩ := h.holder ht hb hn hh
    · exact ⟨j, u, hj, ub, q, uk⟩
    · have h1 := h.kyle (h.lockIs ht hb hn).2.2.2.1 h0
      have h2 := h.kyle (h.lockIs hj ub q1).2.2.2.1 q3
      have := q4 h0
      exact Inv.chase h m j u hj ub q1 q2 q3 (by omega)
/-- Not all wait. -/
theorem Inv.live (h : Inv C P) (ht : P.ts[i]? = some t) (hb : t.busy = true) : ∃ j u, P.ts[j]? = some u ∧ u.busy = true ∧ (P.step j u).2 ≠ 2 ∧ (j = i ∨ u.work.kind = 1 ∨ u.work.kind = 2) := by
  by_cases hw : (P.step i t).2 = 2
  · obtain ⟨_, ⟨h5, _, hh⟩ | ⟨x, d, hd⟩⟩ := h.waits ht hb hw
    · by_cases h0 : lockNext t.work = 0
      · obtain ⟨j, u, hj, ub, uk, q | ⟨q1, q2, q3, _⟩⟩ := h.holder ht hb h5 hh
        · exact ⟨j, u, hj, ub, q, .inr uk⟩
        · obtain ⟨j, u, z1, z2, z3, z4⟩ := h.chase _ j u hj ub q1 q2 q3 (Nat.le_refl _)
          exact ⟨j, u, z1, z2, z3, .inr z4⟩
      · obtain ⟨j, u, z1, z2, z3, z4⟩ := h.chase _ i t ht hb h5 hh h0 (Nat.le_refl _)
        exact ⟨j, u, z1, z2, z3, .inr z4⟩
    · obtain ⟨j, u, hj, hu⟩ := h.e.pd x d hd
      refine ⟨j, u, hj, ?_, ?_, .inr ?_⟩
      · rcases hu with q | q
        · exact q.1
        · exact q.1
      · rcases hu with ⟨q1, q2, q3, q4, _⟩ | ⟨q1, q2, q3, _⟩
        · exact h.moves hj q1 (fun e => by omega) (fun e => by omega)
        · exact h.moves hj q1 (fun e => by omega) (fun e => by omega)
      · rcases hu with q | q
        · exact q.2.1
        · exact .inl q.2.1
  · exact ⟨i, t, ht, hb, hw, .inl rfl⟩
end
end Go.Proofs.YtfccelbmacjifaaGreat

set_option linter.unusedSimpArgs false
namespace Go.Proofs.YtfccelbmacjifaaGreat
/-! ### How many moves are left -/
def Passed (M : PMem) (C : Int → Prop) (x p : Int) : Prop := p = 0 ∨ (x ≠ 0 ∧ Gd M C p ∧ Ky M p ≤ Ky M x)
open Classical in
/-- How many places a walk has not passed. -/
noncomputable def wp (L : Nat) (M : PMem) (C : Int → Prop) (x : Int) : Nat := ((List.range L).filter (fun p => decide (¬ Passed M C x ((p : Nat) : Int)))).length
open Classical in
noncomputable def stale (M : PMem) (C : Int → Prop) (k : PWork) : Nat := if C k.stand ∧ (k.next = 4 ∨ Ld M k.stand = k.ahead) then 0 else 1
/-- Updates that have not linked so far. -/
def unl (t : PThread) : Bool := t.busy && (decide (t.work.kind = 1 ∨ t.work.kind = 2) && decide (t.work.next ≤ 10))
def rx (k : PWork) : Int := if k.kind = 3 then k.stand else match k.links with
  | p :: _ => p.1
  | [] => 0
noncomputable def phi (L : Nat) (M : PMem) (C : Int → Prop) (u : Nat) (t : PThread) : Nat :=
  if t.busy = false then 0
  else if t.work.kind = 3 ∨ t.work.kind = 4 then (if t.work.next = 13 then 1 else if t.work.next = 4 then 2 + wp L M C (rx t.work) else L + 7 - t.work.next)
  else if 7 ≤ t.work.next then 14 - t.work.next
  else (if t.work.next = 6 then 9 else if t.work.next = 5 then 11 - t.work.locks else if t.work.next = 4 then 11 + wp L M C t.work.stand else L + 15 - t.work.next) + (u + (if 4 ≤ t.work.next then stale M C t.work else 0)) * (L + 2)
noncomputable def Phi (L : Nat) (C : Int → Prop) (P : PSt) : Nat := (P.ts.map (phi L P.mem C (count unl P.ts))).sum
theorem filt_le {α : Type} (p q : α → Bool) : ∀ (l : List α), (∀ a ∈ l, q a = true → p a = true) → (l.filter q).length ≤ (l.filter p).length
  | [], _ => by simp
  | a :: l, h => by
    have ih := filt_le p q l (fun b hb => h b (by simp [hb]))
    have ha := h a (by simp)
    rw [List.filter_cons, List.filter_cons]
    by_cases hq : q a = true
    · rw [if_pos hq, if_pos (ha hq)]; simpa using ih
    · rw [if_neg hq]
      split
      · simp; omega
      · exact ih
theorem filt_lt {α : Type} (p q : α → Bool) : ∀ (l : List α), (∀ a ∈ l, q a = true → p a = true) → (∃ a ∈ l, p a = true ∧ q a = false) → (l.filter q).length < (l.filter p).length
  | [], _, h => by obtain ⟨a, ha, _⟩ := h; cases ha
  | a :: l, h, hx => by
    have hle := filt_le p q l (fun b hb => h b (by simp [hb]))
    have ha := h a (by simp)
    rw [List.filter_cons, List.filter_cons]
    obtain ⟨b, hb, h1, h2⟩ := hx
    rcases List.mem_cons.1 hb with rfl | hb
    · rw [if_pos h1, if_neg (by rw [h2]; decide)]; simp; omega
    · have ih := filt_lt p q l (fun c hc => h c (by simp [hc])) ⟨b, hb, h1, h2⟩
      by_cases hq : q a = true
      · rw [if_pos hq, if_pos (ha hq)]; simpa using ih
      · rw [if_neg hq]
        split
        · simp; omega
        · exact ih
section
variable {C C' : Int → Prop} {M M' M2 : PMem} {c c' : Int} {r r' : PSweep} {i j : Nat} {t t' u : PThread} {ts : List PThread} {P : PSt} {x d : Int} {k : PWork} {L : Nat}
open Classical in
theorem wp_mono (h : ∀ p, Passed M C x p → Passed M' C' x p) : wp L M' C' x ≤ wp L M C x := by
  refine filt_le _ _ _ ?_
  intro a _ hq
  simp only [decide_eq_true_eq] at hq ⊢
  exact fun hp => hq (h _ hp)
open Classical in
theorem wp_le (hL : 1 ≤ L) (M : PMem) (C : Int → Prop) (x : Int) : wp L M C x + 1 ≤ L := by
  have h := filt_lt (fun _ : Nat => true) (fun p => decide (¬ Passed M C x ((p : Nat) : Int))) (List.range L) (fun _ _ _ => rfl) ⟨0, by simp; omega, rfl, by simp; exact .inl rfl⟩
  rw [List.filter_eq_self.2 (fun _ _ => rfl), List.length_range] at h
  exact h
open Classical in
theorem Inv.wp_pos (h : Inv C P) (hL : 2 ≤ L) (x : Int) : 1 ≤ wp L P.mem C x := by
  unfold wp
  apply List.length_pos_of_mem (a := 1)
  rw [List.mem_filter]
  refine ⟨by simp; omega, ?_⟩
  simp only [decide_eq_true_eq]
  rintro (q | ⟨_, q, _⟩)
  · have : ((1 : Nat) : Int) = 0 := q; omega
  · exact (h.gdLinks q).2 rfl
open Classical in
theorem Inv.wp_lt (h : Inv C P) (hL : P.mem.ns.length = L) (hd : Gd P.mem C d) (h0 : d ≠ 0) (hlt : Lt P.mem x d) : wp L P.mem C d < wp L P.mem C x := by
  have hu := h.gdUs (.inr hd)
  obtain ⟨k, e, rfl, hk, _⟩ := node_at (hasN_used hu)
  have hkl := (List.getElem?_eq_some_iff.1 hk).1
  refine filt_lt _ _ _ ?_ ⟨k, by simp; omega, ?_, ?_⟩
  · intro p _ hq
    simp only [decide_eq_true_eq] at hq ⊢
    rintro (q | ⟨q1, q2, q3⟩)
    · exact hq (.inl q)
    · refine hq (.inr ⟨h0, q2, ?_⟩)
      have := hlt.resolve_left q1
      omega
  · simp only [decide_eq_true_eq]
    rintro (q | ⟨q1, q2, q3⟩)
    · exact h0 q
    · have := hlt.resolve_left q1
      omega
  · simp only [decide_eq_false_iff_not, Classical.not_not]
    exact .inr ⟨h0, hd, Int.le_refl _⟩
theorem stale_le (M : PMem) (C : Int → Prop) (k : PWork) : stale M C k ≤ 1 := by unfold stale; split <;> omega
theorem stale_zero (h : C k.stand ∧ (k.next = 4 ∨ Ld M k.stand = k.ahead)) : stale M C k = 0 := by unfold stale; rw [if_pos h]
theorem sum_set (f g : PThread → Nat) : ∀ (ts : List PThread) (i : Nat) (t t' : PThread), ts[i]? = some t → (∀ j u, j ≠ i → ts[j]? = some u → g u ≤ f u) → g t' < f t → ((ts.set i t').map g).sum < (ts.map f).sum
  | [], i, t, t', h, _, _ => by simp at h
  | a :: l, 0, t, t', h, ho, hi => by
    simp at h; subst h
    have hl : (l.map g).sum ≤ (l.map f).sum := by
      have : ∀ (m : List PThread), (∀ u ∈ m, g u ≤ f u) → (m.map g).sum ≤ (m.map f).sum := by
        intro m
        induction m with
        | nil => simp
        | cons b m ih =>
          intro hm
          have h1 := hm b (by simp)
          have h2 := ih (fun u hu => hm u (by simp [hu]))
          simp only [List.map_cons, List.sum_cons]; omega
      apply this
      intro u hu
      obtain ⟨j, hj⟩ := List.mem_iff_getElem?.1 hu
      exact ho (j + 1) u (by omega) (by simpa using hj)
    simp only [List.set_cons_zero, List.map_cons, List.sum_cons]; omega
  | a :: l, i + 1, t, t', h, ho, hi => by
    have ih := sum_set f g l i t t' (by simpa using h) (fun j u hj hu => ho (j + 1) u (by omega) (by simpa using hu)) hi
    have h0 := ho 0 a (by omega) rfl
    simp only [List.set_cons_succ, List.map_cons, List.sum_cons]; omega
theorem count_set_le (p : PThread → Bool) : ∀ {ts : List PThread} {i : Nat} {t t' : PThread}, ts[i]? = some t → (p t' = true → p t = true) → count p (ts.set i t') ≤ count p ts
  | [], i, t, t', h => by simp at h
  | a :: l, 0, t, t', h => by
    intro hp
    simp at h; subst h
    unfold count
    rw [List.set_cons_zero, List.filter_cons, List.filter_cons]
    by_cases hq : p t' = true
    · rw [if_pos hq, if_pos (hp hq)]; simp
    · rw [if_neg hq]; split <;> simp
  | a :: l, i + 1, t, t', h => by
    intro hp
    have ih := count_set_le p (ts := l) (i := i) (t := t) (t' := t') (by simpa using h) hp
    unfold count at *
    rw [List.set_cons_succ, List.filter_cons, List.filter_cons]
    split <;> simp <;> omega
/-- The others have no more left than before. -/
theorem Th.phi_le (h : Inv C P) (hj : P.ts[j]? = some u) {n n' : Nat}
    (hk : ∀ x, x = 1 ∨ Gd P.mem C x → Nk P.mem M' x ∧ (Gd P.mem C x → Gd M' C' x))
    (hs : n' + 1 ≤ n ∨ (n' ≤ n ∧ C' = C ∧ ∀ x, Gd P.mem C x → Ld M' x = Ld P.mem x)) : phi L M' C' n' u ≤ phi L P.mem C n u := by
  have hU := h.th j u hj
  have hwp : ∀ x, Gd P.mem C x → wp L M' C' x ≤ wp L P.mem C x := by
    intro x hx
    refine wp_mono ?_
    rintro p (q | ⟨q1, q2, q3⟩)
    · exact .inl q
    · obtain ⟨⟨z1, _⟩, z2⟩ := hk p (.inr q2)
      obtain ⟨⟨y1, _⟩, _⟩ := hk x (.inr hx)
      exact .inr ⟨q1, z2 q2, by rw [z1.1, y1.1]; exact q3⟩
  unfold phi
  by_cases hb : u.busy = false
  · rw [if_pos hb, if_pos hb]; exact Nat.le_refl _
  · rw [if_neg hb, if_neg hb]
    have b : u.busy = true := by simpa using hb
    by_cases hr : u.work.kind = 3 ∨ u.work.kind = 4
    · rw [if_pos hr, if_pos hr]
      by_cases h13 : u.work.next = 13
      · rw [if_pos h13, if_pos h13]; exact Nat.le_refl _
      · rw [if_neg h13, if_neg h13]
        by_cases h4 : u.work.next = 4
        · rw [if_pos h4, if_pos h4]
          have hg : Gd P.mem C (rx u.work) := by
            unfold rx
            rcases hr with hr | hr
            · rw [if_pos hr]; exact (hU.xs b (by omega) (by omega) (by omega)).1
            · rw [if_neg (by omega)]
              obtain ⟨x, e, g, _⟩ := hU.xl b hr h4
              rw [e]; exact g
          have := hwp _ hg
          omega
        · rw [if_neg h4, if_neg h4]; exact Nat.le_refl _
    · rw [if_neg hr, if_neg hr]
      by_cases h7 : 7 ≤ u.work.next
      · rw [if_pos h7, if_pos h7]; exact Nat.le_refl _
      · rw [if_neg h7, if_neg h7]
        have hkd := hU.kd b
        have hg : 4 ≤ u.work.next → Gd P.mem C u.work.stand := fun h4 => (hU.xs b (by omega) h4 (by omega)).1
        have h1 : (if u.work.next = 6 then 9 else if u.work.next = 5 then 11 - u.work.locks else if u.work.next = 4 then 11 + wp L M' C' u.work.stand else L + 15 - u.work.next) ≤ (if u.work.next = 6 then 9 else if u.work.next = 5 then 11 - u.work.locks else if u.work.next = 4 then 11 + wp L P.mem C u.work.stand else L + 15 - u.work.next) := by
          by_cases h6 : u.work.next = 6
          · rw [if_pos h6, if_pos h6]; exact Nat.le_refl _
          · rw [if_neg h6, if_neg h6]
            by_cases h5 : u.work.next = 5
            · rw [if_pos h5, if_pos h5]; exact Nat.le_refl _
            · rw [if_neg h5, if_neg h5]
              by_cases h4 : u.work.next = 4
              · rw [if_pos h4, if_pos h4]
                have := hwp _ (hg (by omega)); omega
              · rw [if_neg h4, if_neg h4]; exact Nat.le_refl _
        have h2 : n' + (if 4 ≤ u.work.next then stale M' C' u.work else 0) ≤ n + (if 4 ≤ u.work.next then stale P.mem C u.work else 0) := by
          by_cases h4 : 4 ≤ u.work.next
          · rw [if_pos h4, if_pos h4]
            rcases hs with hs | ⟨hs1, hs2, hs3⟩
            · have := stale_le M' C' u.work; omega
            · subst hs2
              have hst : stale M' C' u.work ≤ stale P.mem C' u.work := by
                unfold stale
                rw [hs3 _ (hg h4)]
                exact Nat.le_refl _
              omega
          · rw [if_neg h4, if_neg h4]
            omega
        have h3 := Nat.mul_le_mul_right (L + 2) h2
        omega
end
end Go.Proofs.YtfccelbmacjifaaGreat

