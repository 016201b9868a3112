import Derived.Test.YtfccelbmacjifaaGreatP33
import Derived.Test.YtfccelbmacjifaaGreatP32
import Derived.Test.YtfccelbmacjifaaGreatRows
import Derived.Test.YtfccelbmacjifaaGreatP26
import Derived.Test.YtfccelbmacjifaaGreatP20
import Derived.ProofKit
import Derived.Lib.SmallJoins
import Derived.OpenShut
import Derived.ChangeOld
import Derived.JoinedCond
set_option linter.unusedSimpArgs false
namespace Go.Proofs.YtfccelbmacjifaaGreat
open Go.RowKit
/-! ### A new store -/
theorem fresh_nodes (nn : Nat) (es : List PEntry) (x : Int) : (⟨freshNodes nn, es⟩ : PMem).node x = if x = 0 then anchorNode else if x = 1 then endNode else PNode.zero := by
  unfold PMem.node
  have hl : (⟨freshNodes nn, es⟩ : PMem).hasNode x = true ↔ 0 ≤ x ∧ x < nn + 2 := by
    unfold PMem.hasNode; rw [isIn_iff]; simp [freshNodes]; omega
  by_cases h : (⟨freshNodes nn, es⟩ : PMem).hasNode x = true
  · rw [if_pos h]
    rw [hl] at h
    by_cases h0 : x = 0
    · subst h0; rfl
    · rw [if_neg h0]
      by_cases h1 : x = 1
      · subst h1; rfl
      · rw [if_neg h1]
        obtain ⟨k, hk⟩ : ∃ k : Nat, x = k + 2 := ⟨(x - 2).toNat, by omega⟩
        have : x.toNat = k + 2 := by omega
        rw [this]
        show ((anchorNode :: endNode :: List.replicate nn PNode.zero)[k + 2]?).getD PNode.zero = _
        simp only [List.getElem?_cons_succ]
        rw [List.getElem?_replicate]
        split <;> rfl
  · rw [if_neg h]
    rw [hl] at h
    rw [if_neg (by omega), if_neg (by omega)]
theorem fresh_seen (nn en : Nat) (he : 1 ≤ en) : Wm (freshMem nn en) ∧ (freshMem nn en).ns.length = nn + 2 ∧ (∀ x, (freshMem nn en).node x = if x = 0 then linked false 1 anchorNode else if x = 1 then endNode else PNode.zero) ∧ (∀ x, Pd (freshMem nn en) x = []) ∧ (∀ x s d, Sd (freshMem nn en) x s d ↔ x = 0 ∧ s = 0 ∧ d = 1) := by
  have hz : ∀ e ∈ List.replicate en PEntry.zero, e = PEntry.zero := fun e he => (List.mem_replicate.1 he).2
  obtain ⟨M0, hM0⟩ : ∃ M0 : PMem, M0 = ⟨freshNodes nn, List.replicate en PEntry.zero⟩ := ⟨_, rfl⟩
  have hn0 : ∀ x, M0.node x = if x = 0 then anchorNode else if x = 1 then endNode else PNode.zero := fun x => by rw [hM0]; exact fresh_nodes nn _ x
  have hw0 : Wm M0 := by
    refine ⟨by rw [hM0]; simp [freshNodes], ?_, ?_, ?_⟩
    · intro e he _; rw [hM0] at he; exact hz e he
    · intro e he; rw [hM0] at he; rw [hz e he]; rfl
    · intro x hx
      rw [hn0] at hx ⊢
      by_cases h0 : x = 0
      · rw [if_pos h0] at hx; exact nomatch hx
      · rw [if_neg h0] at hx ⊢
        by_cases h1 : x = 1
        · rw [if_pos h1] at hx; exact nomatch hx
        · rw [if_neg h1]
  have hp0 : ∀ x, Pd M0 x = [] := by
    intro x
    rw [hM0]
    unfold Pd
    rw [List.filter_eq_nil_iff.2]
    · rfl
    · intro e he; rw [hz e he, isPd_z]; decide
  have hs0 : ∀ x s d, ¬ Sd M0 x s d := by
    rintro x s d ⟨e, he, h1, _⟩
    rw [hM0] at he
    rw [hz e he, isSt_z] at h1; cases h1
  have hr0 : 0 < M0.room.2 := by
    rw [hM0]
    unfold PMem.room
    simp only
    have : count (fun x : PEntry => !x.used) (List.replicate en PEntry.zero) = en := by
      unfold count
      rw [List.filter_eq_self.2]
      · simp
      · intro e he; rw [hz e he]; rfl
    rw [this]; omega
  obtain ⟨g1, g2, g3, g4, g5, _⟩ := addLink_e (n := 0) (to := 1) hw0 (by rw [hn0, if_pos rfl]; rfl) (by rw [hn0, if_pos rfl]; rfl) (hp0 0) hr0
  have hfm : freshMem nn en = (M0.addLink 0 1).stampNew 0 0 := by rw [hM0]; rfl
  generalize M0.addLink 0 1 = M1 at *
  obtain ⟨s1, s2, s3, s4⟩ := stamp_e (n := 0) (d := 1) 0 g2 (by rw [g4, if_pos rfl])
  have hfm2 : freshMem nn en = M1.stamp 0 false 0 := by
    rw [hfm]
    unfold PMem.stampNew
    rw [stamp_no s2]
  rw [hfm2]
  refine ⟨s2, ?_, ?_, ?_, ?_⟩
  · rw [s1, g1, hM0]; simp [freshNodes]
  · intro x
    rw [node_ns s1, g3]
    split
    · rw [hn0, if_pos rfl]
    · next h => rw [hn0, if_neg h]
  · intro x
    rw [s3]
    split
    · rfl
    · next h => rw [g4, if_neg h]; exact hp0 x
  · intro x s d
    rw [s4, g5]
    constructor
    · rintro (h | h)
      · exact absurd h (hs0 x s d)
      · exact h
    · exact .inr
theorem inv_fresh {T N E L : Int} (hE : 1 ≤ E) : Inv (fun x => x = 0) (freshP 0 T N E L) ∧ (freshP 0 T N E L).mem.ns.length = N.toNat + 2 := by
  obtain ⟨hw, hl, hn, hp, hs⟩ := fresh_seen N.toNat E.toNat (by omega)
  have hm : (freshP 0 T N E L).mem = freshMem N.toNat E.toNat := rfl
  refine ⟨⟨rfl, hw, ?_, ?_, ?_, ?_⟩, hl⟩
  all_goals (try rw [hm]); generalize freshMem N.toNat E.toNat = M at *
  · have n0 : M.node 0 = linked false 1 anchorNode := by rw [hn, if_pos rfl]
    have n1 : M.node 1 = endNode := by rw [hn, if_neg (by decide), if_pos rfl]
    have nd : ∀ x, (M.node x).dead = false := by
      intro x; rw [hn]; split
      · rfl
      · split <;> rfl
    have nr : ∀ x, (M.node x).retired = false := by
      intro x; rw [hn]; split
      · rfl
      · split <;> rfl
    refine ⟨⟨rfl, nd 0⟩, ⟨by decide, by simp only [Us]; rw [n1]; rfl, by rw [n1]; rfl, nd 1, nr 1, by simp only [Ky]; rw [n1]; rfl⟩, ?_, ?_, ?_, ?_, ?_, ?_⟩
    · rintro x rfl
      refine ⟨by simp only [Us]; rw [n0]; rfl, by rw [n0]; rfl, nr 0, ?_, ?_, .inl rfl⟩
      · left; simp only [Ld]; rw [n0]; rfl
      · simp only [Ld]; rw [n0]; decide
    · intro x hx h0 h1
      simp only [Us] at hx
      rw [hn, if_neg h0, if_neg h1] at hx
      exact nomatch hx
    · intro x y hx hy _; exact hx.trans hy.symm
    · intro x hx; simp only [De] at hx; rw [nd] at hx; cases hx
    · intro x hx; simp only [Re] at hx; rw [nr] at hx; cases hx
    · intro x hx; simp only [De] at hx; rw [nd] at hx; cases hx
  · have n0 : M.node 0 = linked false 1 anchorNode := by rw [hn, if_pos rfl]
    have nr : ∀ x, (M.node x).retired = false := by
      intro x; rw [hn]; split
      · rfl
      · split <;> rfl
    refine ⟨?_, ?_, ?_, ?_, ?_⟩
    · intro x s d h
      obtain ⟨rfl, rfl, rfl⟩ := (hs x s d).1 h
      exact ⟨by simp only [Us]; rw [n0]; rfl, by decide, by decide, Int.le_refl _, by decide, .inl rfl, .inl rfl⟩
    · intro x d h; rw [hp] at h; cases h
    · intro x s d h
      obtain ⟨rfl, rfl, rfl⟩ := (hs x s d).1 h
      left; simp only [Ld]; rw [n0]; rfl
    · intro x s d _ hr; simp only [Re] at hr; rw [nr] at hr; cases hr
    · intro h
      have : (0 : Nat) = _ := h
      omega
  · have nd : ∀ x, (M.node x).dead = false := by
      intro x; rw [hn]; split
      · rfl
      · split <;> rfl
    refine ⟨?_, ?_, ?_, ?_, ?_, ?_, ⟨Int.le_refl _, Int.le_refl _⟩, Nat.zero_le _, fun _ => ⟨rfl, rfl⟩⟩
    · intro x hx
      by_cases h0 : x = 0
      · exact .inr (.inl h0)
      · by_cases h1 : x = 1
        · exact .inl h1
        · simp only [Us] at hx
          rw [hn, if_neg h0, if_neg h1] at hx
          exact nomatch hx
    · intro x hx; simp only [De] at hx; rw [nd] at hx; cases hx
    · intro x hx; simp only [De] at hx; rw [nd] at hx; cases hx
    · intro x hx
      left
      simp only [Ho, Us] at hx ⊢
      rw [hn] at hx ⊢
      by_cases h0 : x = 0
      · rw [if_pos h0]; rfl
      · rw [if_neg h0] at hx ⊢
        by_cases h1 : x = 1
        · rw [if_pos h1]; rfl
        · rw [if_neg h1] at hx; exact nomatch hx
    · intro i j t u x hi _ hf _
      have : t = PThread.zero := (List.mem_replicate.1 (List.mem_of_getElem? hi)).2
      rw [this] at hf; exact nomatch hf.1
    · rintro x ⟨n, h, _⟩; cases h
  · intro i t ht
    have htz : t = PThread.zero := (List.mem_replicate.1 (List.mem_of_getElem? ht)).2
    subst htz
    have nb : ∀ {p : Prop}, PThread.zero.busy = true → p := fun b => nomatch b
    refine Th.of6 nb nb nb nb rfl nb ?_ nb nb nb nb nb nb nb nb nb nb nb
    intro x hx
    constructor
    · intro h
      exfalso
      simp only [Ho, Us] at h hx
      rw [hn] at h hx
      by_cases h0 : x = 0
      · rw [if_pos h0] at h
        have : (-1 : Int) = i := h
        omega
      · rw [if_neg h0] at h hx
        by_cases h1 : x = 1
        · rw [if_pos h1] at h
          have : (-1 : Int) = i := h
          omega
        · rw [if_neg h1] at hx; exact nomatch hx
    · rintro ⟨h, _⟩; exact nomatch h
/-! ### What is kept, for Ends -/
theorem greatest_le (B : Int) : ∀ (l : List (Int × Int)) (m : Int), m ≤ B → (∀ p ∈ l, p.2 ≤ B) → l.foldl (fun m p => if p.2 > m then p.2 else m) m ≤ B
  | [], m, hm, _ => hm
  | p :: l, m, hm, h => by
    rw [List.foldl_cons]
    refine greatest_le B l _ ?_ (fun q hq => h q (by simp [hq]))
    have := h p (by simp)
    split <;> omega
theorem spansOkX_hi : ∀ (l : List (Int × Int)), spansOkX l = true → ∀ p ∈ l, p.2 ≤ 1099511627776
  | [], _, p, hp => by cases hp
  | q :: l, h, p, hp => by
    unfold spansOkX at h
    simp only [Bool.and_eq_true, isIn_iff, decide_eq_true_eq] at h
    rcases List.mem_cons.1 hp with rfl | hp
    · have := h.2.1.2; omega
    · exact spansOkX_hi l h.2.2.2 p hp
theorem newWork_ok {kd ky va : Int} {sp : List (Int × Int)} (h : properB kd ky sp = true) : (newWork kd ky va sp).next = 1 ∧ (newWork kd ky va sp).kind = kd ∧ (kd = 1 ∨ kd = 2 ∨ kd = 3 ∨ kd = 4) ∧ (newWork kd ky va sp).locks = 0 ∧ (newWork kd ky va sp).made = [] ∧ (kd ≠ 4 → 0 ≤ (newWork kd ky va sp).key ∧ (newWork kd ky va sp).key ≤ 1099511627776 ∧ (newWork kd ky va sp).key = ky) ∧ (kd = 4 → greatestHi (newWork kd ky va sp).spans ≤ 1099511627776 ∧ (newWork kd ky va sp).links = [(0, false)] ∧ (newWork kd ky va sp).spans = sp) ∧ (kd ≠ 4 → (newWork kd ky va sp).links = []) ∧ (kd = 1 → (newWork kd ky va sp).value = va) := by
  have h0 : checkOp kd ky sp = 0 := of_decide_eq_true h
  unfold checkOp at h0
  by_cases h1 : kd = 1 ∨ kd = 2 ∨ kd = 3
  · rw [if_pos h1] at h0
    have hk : isIn ky 0 (2 ^ 40) = true := by
      cases hh : isIn ky 0 (2 ^ 40)
      · rw [hh] at h0; exact absurd h0 (by decide)
      · rfl
    rw [isIn_iff] at hk
    rcases h1 with e | e | e <;> subst e <;> simp [newWork, PWork.zero] <;> omega
  · rw [if_neg h1] at h0
    by_cases h4 : kd = 4
    · subst h4
      rw [if_pos rfl] at h0
      have hk : (isIn sp.length 1 16 && spansOkX sp) = true := by
        cases hh : (isIn sp.length 1 16 && spansOkX sp)
        · rw [hh] at h0; exact absurd h0 (by decide)
        · rfl
      rw [Bool.and_eq_true] at hk
      refine ⟨rfl, rfl, .inr (.inr (.inr rfl)), rfl, rfl, fun e => absurd rfl e, fun _ => ⟨?_, rfl, rfl⟩, fun e => absurd rfl e, fun e => by cases e⟩
      show greatestHi sp ≤ _
      exact greatest_le _ sp 0 (by decide) (spansOkX_hi sp hk.2)
    · rw [if_neg h4] at h0; exact absurd h0 (by decide)
structure EndJ (T N E L : Int) (D : PlD) : Prop where
  inv : ∃ C, Inv C D.P
  len : D.P.mem.ns.length = N.toNat + 2
  ok : D.ok
  cfg : D.k = 0 ∧ D.t = T ∧ D.n = N ∧ D.e = E ∧ D.l = L
  cnt : D.puts + D.takes ≤ D.deeds.length + count bu D.P.ts
section
variable {D D' : PlD} {i : Nat} {t : PThread} {o : OpV} {T N E L : Int}
theorem ok_begin (hok : D.ok) (hB : Begun D i t o D') : D'.ok := by
  have hok' : D.bs = D.P.ts.map (·.busy) := hok
  show D'.bs = D'.P.ts.map (·.busy)
  by_cases hh : t.busy = true ∨ properB o.kind o.key o.spans = false
  · obtain ⟨q1, q2, _⟩ := hB.no hh
    rw [q1, q2]; exact hok'
  · simp only [not_or, Bool.not_eq_true, Bool.not_eq_false] at hh
    obtain ⟨q1, q2, _⟩ := hB.yes hh.1 hh.2
    rw [q1, q2, hok']
    unfold PSt.setT
    rw [List.map_set]
theorem cfg_trans {a b : PlD} (h : b.k = a.k ∧ b.t = a.t ∧ b.n = a.n ∧ b.e = a.e ∧ b.l = a.l) (g : a.k = 0 ∧ a.t = T ∧ a.n = N ∧ a.e = E ∧ a.l = L) : b.k = 0 ∧ b.t = T ∧ b.n = N ∧ b.e = E ∧ b.l = L := by
  obtain ⟨a1, a2, a3, a4, a5⟩ := h
  obtain ⟨b1, b2, b3, b4, b5⟩ := g
  exact ⟨a1.trans b1, a2.trans b2, a3.trans b3, a4.trans b4, a5.trans b5⟩
theorem inv_begin {C : Int → Prop} (h : Inv C D.P) (ht : D.P.ts[i]? = some t) (hB : Begun D i t o D') : Inv C D'.P ∧ D'.P.mem = D.P.mem := by
  by_cases hh : t.busy = true ∨ properB o.kind o.key o.spans = false
  · obtain ⟨q1, _⟩ := hB.no hh
    rw [q1]; exact ⟨h, rfl⟩
  · simp only [not_or, Bool.not_eq_true, Bool.not_eq_false] at hh
    obtain ⟨q1, _⟩ := hB.yes hh.1 hh.2
    rw [q1]
    obtain ⟨w1, w2, w3, w4, w5, w6, w7, w8, _⟩ := newWork_ok (va := o.value) hh.2
    exact ⟨h.begin ht hh.1 w1 (by rw [w2]; exact w3) w4 w5 (fun e => by rw [w2] at e; exact ⟨(w6 e).1, (w6 e).2.1⟩) (fun e => by rw [w2] at e; exact ⟨(w7 e).1, (w7 e).2.1⟩) (fun e => by rw [w2] at e; exact w8 e), rfl⟩
/-- In the end all that was begun has ended. -/
theorem EndJ.all (h : EndJ T N E L D) (hs : Still 0 D) : D.puts + D.takes ≤ D.deeds.length := by
  have := h.cnt
  have hz : count bu D.P.ts = 0 := by
    unfold count
    rw [List.filter_eq_nil_iff.2]
    · rfl
    · intro t ht
      obtain ⟨j, hj⟩ := List.mem_iff_getElem?.1 ht
      unfold bu
      rw [hs j t (Nat.zero_le _) hj]; simp
  rw [hz] at this
  omega
end
end Go.Proofs.YtfccelbmacjifaaGreat

set_option linter.unusedSimpArgs false
namespace Go.Proofs.YtfccelbmacjifaaGreat
/-! ### How many keys there are, by what has ended and by what is under way -/
def tk (d : DeedV) : Int := if d.a.did = true then (if d.op.kind = 1 then 1 else if d.op.kind = 2 then -1 else 0) else 0
def lnkd (t : PThread) : Int := if t.busy = true ∧ t.work.ans.did = true ∧ 11 ≤ t.work.next then (if t.work.kind = 1 then 1 else if t.work.kind = 2 then -1 else 0) else 0
def isum (l : List Int) : Int := l.foldr (· + ·) 0
theorem isum_app (a b : List Int) : isum (a ++ b) = isum a + isum b := by
  induction a with
  | nil => simp [isum]
  | cons x a ih =>
    show x + isum (a ++ b) = x + isum a + isum b
    rw [ih]; omega
theorem isum_set (f : PThread → Int) : ∀ {ts : List PThread} {i : Nat} {t : PThread} (t' : PThread), ts[i]? = some t → isum ((ts.set i t').map f) = isum (ts.map f) - f t + f t'
  | [], i, t, t', h => by simp at h
  | a :: l, 0, t, t', h => by
    simp at h; subst h
    show f t' + isum (l.map f) = f a + isum (l.map f) - f a + f t'
    omega
  | a :: l, i + 1, t, t', h => by
    have ih := isum_set f (ts := l) (i := i) (t := t) t' (by simpa using h)
    show f a + isum ((l.set i t').map f) = f a + isum (l.map f) - f t + f t'
    rw [ih]; omega
def net (D : PlD) : Int := isum (D.deeds.map tk) + isum (D.P.ts.map lnkd)
section
variable {C C' : Int → Prop} {i j : Nat} {t : PThread} {P : PSt} {D D' : PlD} {o : OpV} {T N E L : Int}
/-- What a step that does not end does to a thread's mark. -/
theorem Inv.lnkStep (h : Inv C P) (ht : P.ts[i]? = some t) (hb : t.busy = true) (h3 : (P.step i t).2 ≠ 3) : ∃ t', (P.step i t).1.ts = P.ts.set i t' ∧ lnkd t' = lnkd t + (if t.work.next = 10 ∧ t.work.kind = 1 then 1 else if t.work.next = 10 ∧ t.work.kind = 2 then -1 else 0) := by
  obtain ⟨dl, hdl⟩ : ∃ dl : Int, dl = (if t.work.next = 10 ∧ t.work.kind = 1 then 1 else if t.work.next = 10 ∧ t.work.kind = 2 then -1 else 0) := ⟨_, rfl⟩
  rw [← hdl]
  have hT := h.th i t ht
  have hnx := hT.nx hb
  have hkd := hT.kd hb
  have hrd := hT.rd hb
  have same : P.ts.set i t = P.ts := by
    apply List.ext_getElem?
    intro j
    rw [List.getElem?_set]
    split
    · next e => subst e; split <;> simp_all
    · rfl
  have low : ∀ t' : PThread, (t'.busy = true → t'.work.next ≤ 10 ∨ t'.work.ans.did = false ∨ (t'.work.kind ≠ 1 ∧ t'.work.kind ≠ 2)) → lnkd t' = 0 := by
    intro t' hh
    unfold lnkd
    by_cases hc : t'.busy = true ∧ t'.work.ans.did = true ∧ 11 ≤ t'.work.next
    · rw [if_pos hc]
      rcases hh hc.1 with q | q | q
      · omega
      · rw [q] at hc; exact absurd hc.2.1 (by decide)
      · rw [if_neg q.1, if_neg q.2]
    · rw [if_neg hc]
  have zero : t.work.next ≠ 10 → dl = 0 := by
    intro hn
    rw [hdl, if_neg (fun q => hn q.1), if_neg (fun q => hn q.1)]
  have fin : ∀ (Q : PSt) (k : PWork) (n : Int), Q.ts = P.ts → t.work.next ≠ 10 → lnkd { t with work := k } = lnkd t → ∃ t', (Q.setW i k, n).1.ts = P.ts.set i t' ∧ lnkd t' = lnkd t + dl := by
    intro Q k n hQ hn hl
    refine ⟨{ t with work := k }, ?_, by rw [hl, zero hn]; omega⟩
    show (Q.setW i k).ts = _
    rw [setW_to Q (t := t) (by rw [hQ]; exact ht) k, hQ]
  rcases (show t.work.next = 1 ∨ t.work.next = 2 ∨ t.work.next = 3 ∨ t.work.next = 13 ∨ (4 ≤ t.work.next ∧ t.work.next ≤ 12) by omega) with hn | hn | hn | hn | hn
  · unfold PSt.step; simp only [hn]
    refine ⟨_, rfl, ?_⟩
    rw [low t (fun _ => .inl (by omega)), low _ (fun _ => .inl (by show 2 ≤ 10; omega)), zero (by omega)]; rfl
  · unfold PSt.step; simp only [hn]
    refine ⟨_, rfl, ?_⟩
    rw [low t (fun _ => .inl (by omega)), low _ (fun _ => .inl (by show 3 ≤ 10; omega)), zero (by omega)]; rfl
  · unfold PSt.step; simp only [hn]
    refine ⟨_, rfl, ?_⟩
    rw [low t (fun _ => .inl (by omega)), low _ (fun _ => .inl (by show 4 ≤ 10; omega)), zero (by omega)]; rfl
  · exfalso; apply h3; unfold PSt.step; simp only [hn]
  · rw [step_mid P hn.1 hn.2]
    by_cases hk : t.work.kind = 3 ∨ t.work.kind = 4
    · rw [if_pos hk]
      have hn4 := hrd hk
      have hl0 : lnkd t = 0 := low t (fun _ => .inl (by omega))
      unfold PSt.read
      simp only
      split
      · exact ⟨t, same.symm, by rw [zero (by omega)]; omega⟩
      · refine fin P _ 1 rfl (by omega) ?_
        rw [hl0]
        refine low _ (fun _ => .inr (.inr ?_))
        have hk' : (if t.work.kind = 3 then P.lookUp t.work (P.mem.ledTo (P.linkNext t.work).1 (P.linkNext t.work).2 t.work.time) else P.scan t.work (P.mem.ledTo (P.linkNext t.work).1 (P.linkNext t.work).2 t.work.time)).kind = t.work.kind := by
          split
          · unfold PSt.lookUp; split <;> rfl
          · unfold PSt.scan; simp only; split <;> rfl
        show (if t.work.kind = 3 then _ else _ : PWork).kind ≠ 1 ∧ (if t.work.kind = 3 then _ else _ : PWork).kind ≠ 2
        rw [hk']; omega
    · rw [if_neg hk]
      have hk : t.work.kind = 1 ∨ t.work.kind = 2 := by omega
      unfold PSt.update
      rcases (show t.work.next = 4 ∨ t.work.next = 5 ∨ t.work.next = 6 ∨ t.work.next = 7 ∨ t.work.next = 8 ∨ t.work.next = 9 ∨ t.work.next = 10 ∨ t.work.next = 11 ∨ t.work.next = 12 by omega) with hn | hn | hn | hn | hn | hn | hn | hn | hn
      · simp only [hn]
        refine fin P _ 1 rfl (by omega) ?_
        rw [low t (fun _ => .inl (by omega))]
        refine low _ (fun _ => .inl ?_)
        show (P.walk t.work).next ≤ 10
        unfold PSt.walk; split
        · show t.work.next ≤ 10; omega
        · show 5 ≤ 10; omega
      · simp only [hn]
        rcases h.lock ht hb hn with ⟨_, q, _⟩ | ⟨_, q⟩
        · rw [q]
          refine fin (P.setM _) _ 1 rfl (by omega) ?_
          rw [low t (fun _ => .inl (by omega))]
          refine low _ (fun _ => .inl ?_)
          simp only; split <;> omega
        · rw [q]; exact ⟨t, same.symm, by rw [zero (by omega)]; omega⟩
      · simp only [hn]
        unfold PSt.check
        have hl0 : lnkd t = 0 := low t (fun _ => .inl (by omega))
        split
        · refine fin (P.setM _) _ 1 rfl (by omega) ?_
          rw [hl0]; exact low _ (fun _ => .inl (by show 4 ≤ 10; omega))
        · split
          · refine fin P _ 1 rfl (by omega) ?_
            rw [hl0]; exact low _ (fun _ => .inr (.inl rfl))
          · refine fin P _ 1 rfl (by omega) ?_
            rw [hl0]; exact low _ (fun _ => .inl (by show 7 ≤ 10; omega))
      · simp only [hn]
        unfold PSt.prepare
        have hl0 : lnkd t = 0 := low t (fun _ => .inl (by omega))
        split
        · refine fin P _ 1 rfl (by omega) ?_
          rw [hl0]; exact low _ (fun _ => .inr (.inl rfl))
        · refine fin (P.setM _) _ 1 rfl (by omega) ?_
          rw [hl0]; exact low _ (fun _ => .inl (by show 8 ≤ 10; omega))
      · simp only [hn]
        unfold PSt.take
        have hl0 : lnkd t = 0 := low t (fun _ => .inl (by omega))
        split
        · refine fin (P.setM _) _ 1 rfl (by omega) ?_
          rw [hl0]; exact low _ (fun _ => .inr (.inl rfl))
        · simp only
          split
          · refine fin { P with clock := P.clock + 1 } _ 1 rfl (by omega) ?_
            rw [hl0]; exact low _ (fun _ => .inl (by show 9 ≤ 10; omega))
          · refine fin (PSt.setM { P with clock := P.clock + 1 } _) _ 1 rfl (by omega) ?_
            rw [hl0]; exact low _ (fun _ => .inl (by show 10 ≤ 10; omega))
      · simp only [hn]
        refine fin (P.setM _) _ 1 rfl (by omega) ?_
        rw [low t (fun _ => .inl (by omega))]; exact low _ (fun _ => .inl (by show 10 ≤ 10; omega))
      · simp only [hn]
        refine ⟨{ t with work := { t.work with next := 11 } }, by rw [setMW_to P ht], ?_⟩
        have hd := (hT.s9 hb (by omega) (by omega)).1
        rw [low t (fun _ => .inl (by omega))]
        show lnkd { t with work := { t.work with next := 11 } } = 0 + _
        unfold lnkd
        rw [if_pos (show t.busy = true ∧ t.work.ans.did = true ∧ 11 ≤ 11 from ⟨hb, hd, by omega⟩)]
        rcases hk with hk | hk
        · rw [if_pos (show t.work.kind = 1 from hk), hdl, if_pos ⟨hn, hk⟩]; rfl
        · rw [if_neg (show ¬ t.work.kind = 1 by omega), if_pos (show t.work.kind = 2 from hk), hdl, if_neg (by omega), if_pos ⟨hn, hk⟩]; rfl
      · simp only [hn]
        refine fin (P.setM _) _ 1 rfl (by omega) ?_
        unfold lnkd
        simp only [hn]
        simp
      · simp only [hn]
        unfold PSt.unlock
        refine fin (P.setM _) _ 1 rfl (by omega) ?_
        unfold lnkd
        simp only [hn]
        simp
theorem three_next (h : (P.step i t).2 = 3) : t.work.next = 13 := by
  unfold PSt.step at h
  split at h
  · cases h
  · cases h
  · cases h
  · assumption
  · split at h
    · unfold PSt.read at h
      simp only at h
      split at h <;> cases h
    · unfold PSt.update at h
      split at h
      · cases h
      · unfold PSt.lock at h
        split at h
        · split at h <;> cases h
        · cases h
      all_goals cases h
structure ClJ (T N E L : Int) (D : PlD) : Prop where
  ex : ∃ C, Inv C D.P ∧ InvX C D.P ∧ ∃ l : List Int, l.Nodup ∧ (∀ x, x ∈ l ↔ C x) ∧ (l.length : Int) = 1 + net D
  len : D.P.mem.ns.length = N.toNat + 2
  eln : D.P.mem.es.length = E.toNat
  lim : D.P.limit = L
  ok : D.ok
  cfg : D.k = 0 ∧ D.t = T ∧ D.n = N ∧ D.e = E ∧ D.l = L
  opk : ∀ (i : Nat) t o, D.P.ts[i]? = some t → t.busy = true → D.ops[i]? = some o → o.kind = t.work.kind
theorem sweep_eln (P : PSt) : P.doSweep.1.mem.es.length = P.mem.es.length ∧ P.doSweep.1.limit = P.limit := by
  unfold PSt.doSweep
  simp only
  split
  · exact ⟨rfl, rfl⟩
  · split
    · split <;> exact ⟨rfl, rfl⟩
    · split
      · exact ⟨drop_eslen _, rfl⟩
      · exact ⟨freesIf_eslen _ _ _ _, rfl⟩
theorem cl_plays : Plays 0 T N E L (ClJ T N E L) := by
  refine ⟨fun h => by obtain ⟨C, h1, _⟩ := h.ex; exact ⟨C, h1⟩, fun h => h.len, fun h => h.ok, fun h => h.cfg, ?_, ?_, ?_, fun _ h => by omega⟩
  · intro D D' i t h hfit ht hb _ hs
    obtain ⟨C, hC, hX, l, l1, l2, l3⟩ := h.ex
    obtain ⟨M', c', t1, hto, _⟩ := (hfit.turn ht hb).to
    have hil := (List.getElem?_eq_some_iff.1 ht).1
    have hlm : (D.P.step i t).1.limit = D.P.limit := by rw [hto]
    have hT := hC.th i t ht
    refine ⟨⟨nextC C t, by rw [hs.P]; exact hC.step ht hb, by rw [hs.P]; exact hX.step hC ht hb, ?_⟩, by rw [hs.P, step_len hC.kind]; exact h.len, by rw [hs.P, (hC.ents ht hb).ln]; exact h.eln, by rw [hs.P, hlm]; exact h.lim, ok_step hC.kind h.ok ht hb hs, cfg_trans hs.cfg h.cfg, ?_⟩
    · by_cases e3 : (D.P.step i t).2 = 3
      · -- the end
        have hst := step_three e3
        have h13 : t.work.next = 13 := three_next e3
        rw [nextC_ne (by omega)]
        refine ⟨l, l1, l2, ?_⟩
        rw [l3]
        obtain ⟨av, oo, ff, q1, q2, q3⟩ := hs.deeds.2 e3
        unfold net
        rw [hs.P, hst, q3, List.map_append, isum_app]
        show _ = 1 + (isum (D.deeds.map tk) + isum [tk ⟨oo, t.work.ans, av, ff⟩] + isum ((D.P.ts.set i t.leave).map lnkd))
        rw [isum_set lnkd t.leave ht]
        have e1 : lnkd t.leave = 0 := rfl
        have e2 : tk ⟨oo, t.work.ans, av, ff⟩ = lnkd t := by
          have hk := h.opk i t oo ht hb q1
          unfold tk lnkd
          simp only [hk]
          by_cases hd : t.work.ans.did = true
          · rw [if_pos hd, if_pos (show t.busy = true ∧ t.work.ans.did = true ∧ 11 ≤ t.work.next from ⟨hb, hd, by omega⟩)]
          · rw [if_neg hd, if_neg (show ¬ (t.busy = true ∧ t.work.ans.did = true ∧ 11 ≤ t.work.next) from fun q => hd q.2.1)]
        have e4 : isum [tk ⟨oo, t.work.ans, av, ff⟩] = lnkd t := by
          show tk ⟨oo, t.work.ans, av, ff⟩ + 0 = _
          rw [e2]; omega
        rw [e1, e4]
        unfold net at l3
        omega
      · obtain ⟨t', p1, p2⟩ := hC.lnkStep ht hb e3
        have hnet : net D' = net D + (if t.work.next = 10 ∧ t.work.kind = 1 then 1 else if t.work.next = 10 ∧ t.work.kind = 2 then -1 else 0) := by
          unfold net
          rw [hs.P, p1, hs.deeds.1 e3, isum_set lnkd t' ht, p2]; omega
        rw [hnet]
        unfold nextC
        by_cases hn2 : t.work.next = 10 ∧ t.work.kind = 2
        · rw [if_pos hn2, if_neg (by omega), if_pos hn2]
          obtain ⟨_, m1, m2, m3, m4, m5, m6⟩ := hC.mine ht hb (by omega) (by omega)
          obtain ⟨_, _, a3, _⟩ := m6 hn2.2
          have c10 := hT.c10 hb (by omega) (by omega)
          have hCa : C t.work.ahead := by
            have := (hC.n.mc _ m1).2.2.2.1
            rw [c10] at this
            exact this.resolve_left a3
          refine ⟨l.erase t.work.ahead, l1.erase _, ?_, ?_⟩
          · intro x
            rw [l1.mem_erase_iff, l2]
            exact ⟨fun q => ⟨q.2, q.1⟩, fun q => ⟨q.2, q.1⟩⟩
          · have := List.length_erase_of_mem ((l2 _).2 hCa)
            have : 0 < l.length := List.length_pos_of_mem ((l2 _).2 hCa)
            omega
        · rw [if_neg hn2, if_neg hn2]
          by_cases hn1 : t.work.next = 10 ∧ t.work.kind = 1
          · rw [if_pos hn1, if_pos hn1]
            obtain ⟨n, f1, f2, f3, f4, f5, _⟩ := hT.f8 hb hn1.2 (.inr hn1.1)
            refine ⟨n :: l, List.nodup_cons.2 ⟨fun q => f5 ((l2 n).1 q), l1⟩, ?_, ?_⟩
            · intro x
              rw [List.mem_cons, l2, f1]
              simp only [List.mem_singleton]
              exact ⟨fun q => q.symm, fun q => q.symm⟩
            · simp only [List.length_cons]; omega
          · rw [if_neg hn1, if_neg hn1]
            exact ⟨l, l1, l2, by omega⟩
    · intro j u oo hj hub ho
      obtain ⟨t', p1, p2, p3⟩ := step_work hC.kind ht hb
      rw [hs.P, p1] at hj
      rw [hs.ops] at ho
      rw [List.getElem?_set] at hj
      by_cases e : i = j
      · subst e
        simp [hil] at hj; subst hj
        by_cases e3 : (D.P.step i t).2 = 3
        · rw [p2 e3] at hub; cases hub
        · rw [(p3 e3).2.1.1]; exact h.opk i t oo ht hb ho
      · rw [if_neg e] at hj
        exact h.opk j u oo hj hub ho
  · intro D D' i t o h ht _ hB
    obtain ⟨C, hC, hX, l, l1, l2, l3⟩ := h.ex
    have hil := (List.getElem?_eq_some_iff.1 ht).1
    obtain ⟨g1, g2⟩ := inv_begin hC ht hB
    by_cases hh : t.busy = true ∨ properB o.kind o.key o.spans = false
    · obtain ⟨q1, _, q3, _⟩ := hB.no hh
      refine ⟨⟨C, g1, by rw [q1]; exact hX, l, l1, l2, ?_⟩, by rw [q1]; exact h.len, by rw [q1]; exact h.eln, by rw [q1]; exact h.lim, ok_begin h.ok hB, cfg_trans hB.cfg h.cfg, ?_⟩
      · rw [l3]; unfold net; rw [q1, hB.deeds]
      · rw [q1, q3]; exact h.opk
    · simp only [not_or, Bool.not_eq_true, Bool.not_eq_false] at hh
      obtain ⟨q1, _, q3, _⟩ := hB.yes hh.1 hh.2
      obtain ⟨w1, w2, _⟩ := newWork_ok (va := o.value) hh.2
      refine ⟨⟨C, g1, ?_, l, l1, l2, ?_⟩, by rw [g2]; exact h.len, by rw [g2]; exact h.eln, by rw [q1]; exact h.lim, ok_begin h.ok hB, cfg_trans hB.cfg h.cfg, ?_⟩
      · rw [q1]; exact hX.begin ht w1
      · rw [l3]
        unfold net
        rw [q1, hB.deeds]
        show _ = 1 + (isum (D.deeds.map tk) + isum ((D.P.ts.set i { t with busy := true, work := newWork o.kind o.key o.value o.spans }).map lnkd))
        rw [isum_set lnkd _ ht]
        have e1 : lnkd t = 0 := by unfold lnkd; rw [if_neg (fun q => by rw [hh.1] at q; exact nomatch q.1)]
        have e2 : lnkd { t with busy := true, work := newWork o.kind o.key o.value o.spans } = 0 := by
          unfold lnkd
          rw [if_neg]
          rintro ⟨_, _, q⟩
          have : 11 ≤ (newWork o.kind o.key o.value o.spans).next := q
          omega
        rw [e1, e2]; omega
      · intro j u oo hj hub ho
        rw [q1] at hj
        rw [q3] at ho
        have hj' : (D.P.ts.set i { t with busy := true, work := newWork o.kind o.key o.value o.spans })[j]? = some u := hj
        rw [List.getElem?_set] at hj' ho
        by_cases e : i = j
        · subst e
          have hol : i < D.ops.length := by
            rcases Nat.lt_or_ge i D.ops.length with q | q
            · exact q
            · simp [show ¬ i < D.ops.length by omega] at ho
          simp only [hil, hol, if_true, Option.some.injEq] at hj' ho
          subst hj'
          rw [← ho]
          show o.kind = (newWork o.kind o.key o.value o.spans).kind
          exact w2.symm
        · rw [if_neg e] at hj' ho
          exact h.opk j u oo hj' hub ho
  · intro D L' h
    obtain ⟨C, hC, hX, l, l1, l2, l3⟩ := h.ex
    refine ⟨⟨C, hC.sweep, hX.sweep hC, l, l1, l2, ?_⟩, by show D.P.doSweep.1.mem.ns.length = _; rw [sweep_len]; exact h.len, by show D.P.doSweep.1.mem.es.length = _; rw [(sweep_eln D.P).1]; exact h.eln, by show D.P.doSweep.1.limit = _; rw [(sweep_eln D.P).2]; exact h.lim, ?_, h.cfg, ?_⟩
    · rw [l3]
      show _ = 1 + (isum (D.deeds.map tk) + isum (D.P.doSweep.1.ts.map lnkd))
      rw [sweep_ts]; rfl
    · show D.bs = D.P.doSweep.1.ts.map (·.busy)
      rw [sweep_ts]; exact h.ok
    · show ∀ (i : Nat) t o, D.P.doSweep.1.ts[i]? = some t → t.busy = true → D.ops[i]? = some o → o.kind = t.work.kind
      rw [sweep_ts]; exact h.opk
theorem cl_fresh (hE : 1 ≤ E) (h : FreshPl T N E L D) : ClJ T N E L D := by
  obtain ⟨h1, h2⟩ := inv_fresh (T := T) (N := N) (L := L) hE
  obtain ⟨hw, hl, hn, hp, hs⟩ := fresh_seen N.toNat E.toNat (by omega)
  have hm : (freshP 0 T N E L).mem = freshMem N.toNat E.toNat := rfl
  have hts : ∀ t ∈ (freshP 0 T N E L).ts, t = PThread.zero := fun t ht => (List.mem_replicate.1 ht).2
  refine ⟨⟨fun x => x = 0, by rw [h.P]; exact h1, ?_, [0], by simp, by simp, ?_⟩, by rw [h.P]; exact h2, ?_, by rw [h.P]; rfl, h.ok, h.cfg, ?_⟩
  · rw [h.P]
    refine ⟨fun x hx h0 => absurd hx h0, ?_, ?_, ?_⟩
    · rintro x (rfl | ⟨j, u, hj, hu⟩)
      · exact ⟨0, 1, (hs 0 0 1).2 ⟨rfl, rfl, rfl⟩⟩
      · rw [hts u (List.mem_of_getElem? hj)] at hu; exact nomatch hu.1
    · rw [hm]
      obtain ⟨en, hen⟩ : ∃ en : Nat, E.toNat = en + 1 := ⟨E.toNat - 1, by omega⟩
      rw [hen, fresh_mem]
      have one : ∀ (i : Nat) a, (⟨true, false, 0, false, 1, 0⟩ :: List.replicate en PEntry.zero : List PEntry)[i]? = some a → stp a = true → i = 0 := by
        intro i a hi hu
        cases i with
        | zero => rfl
        | succ i =>
          have hi' : (List.replicate en PEntry.zero)[i]? = some a := hi
          have := (List.mem_replicate.1 (List.mem_of_getElem? hi')).2
          subst this; exact nomatch hu
      intro i j a b ha hb sa sb _ _
      rw [one i a ha sa, one j b hb sb]
    · rw [hm, hn 0, if_pos rfl]; exact ⟨rfl, rfl⟩
  · unfold net
    rw [h.P, h.deeds]
    have : isum ((freshP 0 T N E L).ts.map lnkd) = 0 := by
      have : ∀ (k : Nat), isum ((List.replicate k PThread.zero).map lnkd) = 0 := by
        intro k
        induction k with
        | zero => rfl
        | succ k ih =>
          show lnkd PThread.zero + isum ((List.replicate k PThread.zero).map lnkd) = 0
          rw [ih]; rfl
      exact this T.toNat
    rw [this]; rfl
  · rw [h.P, hm]
    obtain ⟨en, hen⟩ : ∃ en : Nat, E.toNat = en + 1 := ⟨E.toNat - 1, by omega⟩
    rw [hen, fresh_mem]; simp
  · intro i t o ht hb
    rw [h.P] at ht
    rw [hts t (List.mem_of_getElem? ht)] at hb; cases hb
end
end Go.Proofs.YtfccelbmacjifaaGreat

set_option linter.unusedSimpArgs false
namespace Go.Proofs.YtfccelbmacjifaaGreat
open Go.ChangeShapes Go.WideShapes Go.ChangeAt Go.RowKit Go.Joins Go.Deep
theorem Tryz.own : ownKnob Tryz.prog.godebug = none := by kernel_rfl
theorem Tryz.laidOut : laidOutB Tryz.prog = true := by kernel_rfl
theorem Tryz.cellsConfig : Tryz.prog.cellsOf 23 = 5 := by kernel_rfl
theorem Tryz.cellsAct : Tryz.prog.cellsOf 34 = 7 := by kernel_rfl
theorem Tryz.cellsSpan : Tryz.prog.cellsOf 138 = 2 := by kernel_rfl
theorem Tryz.cellsSpans : Tryz.prog.cellsOf 32 = 1 := by kernel_rfl
theorem Tryz.cellsInt : Tryz.prog.cellsOf 3 = 1 := by kernel_rfl

theorem list5 {α : Type} {l : List α} (h : l.length = 5) : ∃ a b c d e, l = [a, b, c, d, e] := by
  match l, h with
  | [a, b, c, d, e], _ => exact ⟨a, b, c, d, e, rfl⟩
theorem array5 {α : Type} {l : Array α} (h : l.size = 5) : ∃ a b c d e, l = #[a, b, c, d, e] := by
  obtain ⟨l⟩ := l
  obtain ⟨a, b, c, d, e, rfl⟩ := list5 (l := l) h
  exact ⟨a, b, c, d, e, rfl⟩
section
variable {H : Type} {enc : TypeId × Value → H} {P : Program} {w : World} {base : Nat} {spare : Nat → Bool} {held : Bool}
theorem trod_struct5 {t : TypeId} {f0 f1 f2 f3 f4 : Field} {fuel : Nat} {cs : List Value} {x : DataW H × List MemPlace} (ht : P.underlying t = some (.struct #[f0, f1, f2, f3, f4])) (h : DataW.trod enc P w base spare held fuel t cs = some x) :
    ∃ y0 y1 y2 y3 y4 n, DataW.trod enc P w base spare held n f0.type ((cs.drop f0.offset).take (P.cellsOf f0.type)) = some y0 ∧
      DataW.trod enc P w base spare held n f1.type ((cs.drop f1.offset).take (P.cellsOf f1.type)) = some y1 ∧ DataW.trod enc P w base spare held n f2.type ((cs.drop f2.offset).take (P.cellsOf f2.type)) = some y2 ∧
      DataW.trod enc P w base spare held n f3.type ((cs.drop f3.offset).take (P.cellsOf f3.type)) = some y3 ∧ DataW.trod enc P w base spare held n f4.type ((cs.drop f4.offset).take (P.cellsOf f4.type)) = some y4 := by
  obtain ⟨xs, n, _, rfl, hl, hlen, hf⟩ := DataW.trod_struct ht h
  obtain ⟨y0, y1, y2, y3, y4, rfl⟩ := list5 (l := xs) hlen
  exact ⟨y0, y1, y2, y3, y4, n, by simpa using hf 0 f0 rfl, by simpa using hf 1 f1 rfl, by simpa using hf 2 f2 rfl, by simpa using hf 3 f3 rfl, by simpa using hf 4 f4 rfl⟩
def rawI (c : Int) : Prop := -9223372036854775808 ≤ c ∧ c ≤ 9223372036854775807
theorem ints5 {r : Reach} {b0 : Nat} {t ti : TypeId} {f0 f1 f2 f3 f4 : Field} {v : Value} {d : DataW H} {p : List MemPlace} (hs : P.underlying t = some (.struct #[f0, f1, f2, f3, f4])) (hone : oneCellFields P #[f0, f1, f2, f3, f4] = true) (hC : P.cellsOf t = 5)
    (hi : P.underlying ti = some (.int .i64)) (h0 : f0.type = ti) (h1 : f1.type = ti) (h2 : f2.type = ti) (h3 : f3.type = ti) (h4 : f4.type = ti)
    (hv : Value.okWide P w r b0 t v) (h : DataW.Trod enc P w base spare held t v d p) : ∃ k t n e l : Int, v = cfg k t n e l ∧ rawI t ∧ rawI n ∧ rawI e ∧ rawI l := by
  obtain ⟨cs, rfl, hsz⟩ := okWide_struct hs hv
  obtain ⟨c0, c1, c2, c3, c4, rfl⟩ := array5 (hsz.trans hC)
  obtain ⟨fuel, hf⟩ := h
  obtain ⟨y0, y1, y2, y3, y4, n, g0, g1, g2, g3, g4⟩ := trod_struct5 hs hf
  obtain ⟨o0, k0⟩ := hone_of hone 0 f0 rfl
  obtain ⟨o1, _⟩ := hone_of hone 1 f1 rfl
  obtain ⟨o2, _⟩ := hone_of hone 2 f2 rfl
  obtain ⟨o3, _⟩ := hone_of hone 3 f3 rfl
  obtain ⟨o4, _⟩ := hone_of hone 4 f4 rfl
  rw [h0] at k0
  simp only [o0, o1, o2, o3, o4, h0, h1, h2, h3, h4, k0] at g0 g1 g2 g3 g4
  obtain ⟨a0, e0, _, _⟩ := DataW.trod_int hi g0
  obtain ⟨a1, e1, _, wf1⟩ := DataW.trod_int hi g1
  obtain ⟨a2, e2, _, wf2⟩ := DataW.trod_int hi g2
  obtain ⟨a3, e3, _, wf3⟩ := DataW.trod_int hi g3
  obtain ⟨a4, e4, _, wf4⟩ := DataW.trod_int hi g4
  have b1 := Go.bounds_i64 wf1
  have b2 := Go.bounds_i64 wf2
  have b3 := Go.bounds_i64 wf3
  have b4 := Go.bounds_i64 wf4
  simp [Value.cells] at e0 e1 e2 e3 e4
  subst e0 e1 e2 e3 e4
  exact ⟨a0, a1, a2, a3, a4, rfl, b1, b2, b3, b4⟩
end
set_option maxRecDepth 100000 in
/-- Settings, as they come in, are five numbers. -/
theorem cfg_open {H : Type} {enc : TypeId × Value → H} {W : World} {r : Reach} {b0 base : Nat} {spare : Nat → Bool} {held : Bool} {v : Value} {d : DataW H} {p : List MemPlace}
    (hv : Value.okWide Tryz.prog W r b0 23 v) (h : DataW.Trod enc Tryz.prog W base spare held 23 v d p) : ∃ k t n e l : Int, v = cfg k t n e l ∧ rawI t ∧ rawI n ∧ rawI e ∧ rawI l :=
  ints5 Tryz.underlying23 (by kernel_rfl) Tryz.cellsConfig Tryz.underlying3 rfl rfl rfl rfl rfl hv h

/-! What the bound gives -/
theorem bulk_one {H : Type} (d : DataW H) : 1 ≤ Rows.uptoBulk d := by
  cases d with
  | lit l => cases l <;> simp [Rows.uptoBulk]
  | nil => simp [Rows.uptoBulk]
  | ptr d => simp [Rows.uptoBulk]
  | slice elems spare => simp [Rows.uptoBulk]
  | agg parts => simp [Rows.uptoBulk]
  | iface t d => simp [Rows.uptoBulk]
  | map entries => simp [Rows.uptoBulk]
  | held h => simp [Rows.uptoBulk]
theorem bulk_part {H : Type} {d : DataW H} : ∀ {l : List (DataW H)}, d ∈ l → Rows.uptoBulk d ≤ Rows.uptoBulkAll l
  | [], h => by cases h
  | x :: r, h => by
    simp only [Rows.uptoBulkAll]
    rcases List.mem_cons.1 h with rfl | e
    · omega
    · have := bulk_part e; omega
theorem bulk_len {H : Type} : ∀ (l : List (DataW H)), l.length ≤ Rows.uptoBulkAll l
  | [] => by simp
  | x :: r => by have h1 := bulk_one x; have h2 := bulk_len r; simp only [Rows.uptoBulkAll, List.length_cons]; omega
set_option maxRecDepth 100000 in
/-- A script, as it comes in. -/
theorem acts_open {H : Type} {enc : TypeId × Value → H} {W : World} {r : Reach} {b0 base : Nat} {spare : Nat → Bool} {held : Bool} {v : Value} {d : DataW H} {p : List MemPlace}
    (hv : Value.okWide Tryz.prog W r b0 24 v) (h : DataW.Trod enc Tryz.prog W base spare held 24 v d p) :
    ∃ sa n c, ∃ acts : List ActD, v = .slice sa n c ∧ n ≤ Rows.uptoBulk d ∧ acts.length = n ∧ ∀ i a, acts[i]? = some a → ActIn W sa i a ∧ a.sn ≤ Rows.uptoBulk d := by
  obtain ⟨fuel, hf⟩ := h
  obtain ⟨sa0, n0, c0, rfl⟩ := okWide_slice Tryz.underlying24 hv
  obtain ⟨sa, n, c, acts, e, h1, h2, h3⟩ := script_open (B := Rows.uptoBulk) Tryz.underlying24 Tryz.underlying34 Tryz.cellsAct rfl rfl rfl rfl rfl rfl rfl rfl rfl rfl rfl rfl rfl rfl Tryz.cellsInt Tryz.underlying3 Tryz.cellsSpans
    Tryz.underlying32 Tryz.underlying138 Tryz.cellsSpan rfl rfl rfl rfl
    (fun elems sp => by have := bulk_len elems; simp only [Rows.uptoBulk]; omega) (fun elems sp d hd => by have := bulk_part hd; simp only [Rows.uptoBulk]; omega) (fun parts d hd => by have := bulk_part hd; simp only [Rows.uptoBulk]; omega) hf
  simp [Value.cells] at e
  obtain ⟨rfl, rfl, rfl⟩ := e
  exact ⟨_, _, _, acts, rfl, h1, h2, h3⟩
end Go.Proofs.YtfccelbmacjifaaGreat

set_option linter.unusedSimpArgs false
namespace Go.Proofs.YtfccelbmacjifaaGreat
open Go.ChangeShapes Go.WideShapes Go.ChangeAt Go.RowKit Go.Joins Go.Deep
/-- What is wanted of the law's own walk. -/
def LawHolds (fn : Nat) : Prop := ∀ (k t n e l : Int) (W : World) (sa : Option Addr) (c : Nat) (acts : List ActD), rawI t → rawI n → rawI e → rawI l → acts.length ≤ 2 ^ 20 → (∀ i a, acts[i]? = some a → ActIn W sa i a ∧ a.sn ≤ 2 ^ 20) →
  Calls Tryz.prog fn #[cfg k t n e l, .slice sa acts.length c] W fun r W' => r = .returned (.bool true) ∧ Fr (fun _ => False) W W'
end Go.Proofs.YtfccelbmacjifaaGreat

set_option linter.unusedSimpArgs false
namespace Go.Proofs.YtfccelbmacjifaaGreat
open Go.RowKit
/-- A store on which some acts were played. -/
def PlOn (W w : World) (pb : Nat) (Q : PlD → Prop) : Prop := ∃ own D, PlAt own 1 w pb D ∧ Ext own00 own W ∧ Fr (fun _ => False) W w ∧ Q D
section
variable {W w w1 : World} {own : Own} {pb : Nat} {D : PlD} {f b : Nat} {J Q : PlD → Prop} {T Nn E L : Int}
theorem PlOn.goes (hE : Ext own00 own W) (hF : Fr (fun _ => False) W w) (h : PlGoes own 1 w pb w1 Q) : PlOn W w1 pb Q := by
  obtain ⟨own1, D1, h1, h2, h3, h4⟩ := h
  refine ⟨own1, D1, h1, Ext.trans hE h2 hF.size, ?_, h4⟩
  refine Fr.transNew hF h3 ?_
  intro k hk
  right
  rcases Nat.lt_or_ge k W.heap.size with hlt | hge
  · rw [hE k hlt] at hk
    simp [own00] at hk
  · exact hge
theorem PlOn.mono {Q' : PlD → Prop} (h : PlOn W w pb Q) (hq : ∀ D, Q D → Q' D) : PlOn W w pb Q' := by
  obtain ⟨own, D, h1, h2, h3, h4⟩ := h
  exact ⟨own, D, h1, h2, h3, hq D h4⟩
set_option maxHeartbeats 2000000 in
set_option maxRecDepth 100000 in
theorem played_calls (hJ : Plays f T Nn E L J) (hfr : ∀ D, FreshPl T Nn E L D → J D) (hok : okCfg 0 T Nn E L = true) (hf : (f : Int) < T) (W : World) (sa : Option Addr) (c : Nat) (acts : List ActD) (hlen : acts.length ≤ 2 ^ 20) (hacts : ∀ i a, acts[i]? = some a → ActIn W sa i a ∧ a.sn ≤ 2 ^ 20) :
    Calls Tryz.prog 47 #[cfg 0 T Nn E L, .slice sa acts.length c, .int .i64 f] W fun r W' => ∃ pb, r = .returned (pv pb) ∧ PlOn W W' pb (fun D => J D ∧ Sz (400 * acts.length) D) := by
  have HJ := (show Hid (Plays f T Nn E L J ∧ (f : Int) < T) from ⟨hJ, hf⟩)
  have HFr := (show Hid (∀ D, FreshPl T Nn E L D → J D) from hfr)
  have HOk := (show Hid (okCfg 0 T Nn E L = true) from hok)
  have HAc := (show Hid (∀ i a, acts[i]? = some a → ActIn W sa i a ∧ a.sn ≤ 2 ^ 20) from hacts)
  clear hJ hfr hok hf hacts
  have HPl := (show Hid (∀ w, Calls Tryz.prog 40 #[cfg 0 T Nn E L] w _) from fun w => player_calls T Nn E L w own00 1 HOk.out)
  unfold cfg at HPl ⊢
  go_enter Tryz.func47, Tryz.ntmps47
  go_wp2_with fail
  refine Calls.mono (HPl.out _) ?_
  rintro r w2 ⟨pb, rfl, own, D, hP, hE0, hD, hF2⟩
  have HOn := (show Hid (PlOn W w2 pb (fun D => J D ∧ Sz (400 * 0) D)) from by
    refine ⟨own, D, hP, fun k hk => hE0 k (Nat.lt_of_lt_of_le hk ((Fr.refl (fun _ => False) W).alloc _).size), ((Fr.refl _ _).alloc _).trans hF2, HFr.out D hD, ?_⟩
    unfold Sz
    rw [hD.N, hD.deeds, hD.cnt.1, hD.cnt.2]
    simp)
  clear hP hE0 hD hF2 HPl HOk
  unfold pv
  go_wp2
  go_loopw [8] (fun v wr => ∃ j : Nat, j ≤ acts.length ∧ v = .int .i64 j ∧ Hid (PlOn W wr pb (fun D => J D ∧ Sz (400 * j) D))) (fun v _ => acts.length - (intOf v).toNat)
  case atStart => exact ⟨0, by omega, rfl, HOn⟩
  case round =>
    clear HOn
    obtain ⟨j, hj, rfl, HOn⟩ := hrel
    by_cases hlt : j < acts.length
    · obtain ⟨own1, D1, hP1, hE1, hF1, hj1, hS1⟩ := HOn.out
      have hx : acts[j]? = some acts[j] := List.getElem?_eq_getElem hlt
      obtain ⟨hai, hasn⟩ := HAc.out j _ hx
      generalize acts[j] = a at hx hai hasn
      obtain ⟨ab, off, rfl, hcl, hsp, hmm, htt⟩ := hai.keep hF1
      have HAct := (show Hid (Calls _ _ _ _ _) from Pact_calls HJ.out.1 hP1 hj1 hS1 (by omega) HJ.out.2 a hsp hasn hmm htt)
      have HX := (show Hid (Ext own00 own1 W ∧ Fr (fun _ => False) W wr) from ⟨hE1, hF1⟩)
      have c0 := hcl 0 _ rfl
      have c1 := hcl 1 _ rfl
      have c2 := hcl 2 _ rfl
      have c3 := hcl 3 _ rfl
      have c4 := hcl 4 _ rfl
      have c5 := hcl 5 _ rfl
      have c6 := hcl 6 _ rfl
      obtain ⟨kd, tt, o, ky, va, m, psa, psn, psc, sps⟩ := a
      simp only [Nat.add_zero, ← Nat.add_assoc] at c0 c1 c2 c3 c4 c5 c6
      unfold pv actVal at HAct
      simp only at HAct
      clear hP1 hE1 hF1 hj1 hS1 hx hai hasn hcl hsp hmm htt HOn
      go_wp2_with fail
      refine Calls.mono HAct.out ?_
      rintro r w4 ⟨rfl, hg⟩
      have HOn2 := (show Hid (PlOn W w4 pb (fun D => J D ∧ Sz (400 * (j + 1)) D)) from PlOn.goes HX.out.1 HX.out.2 hg)
      clear hg HAct c0 c1 c2 c3 c4 c5 c6
      go_wp2
      go_roundw
      case rel => exact ⟨j + 1, by omega, by go_num, HOn2⟩
      case measure => simp [intOf]; omega
    · have hje : Hid (j = acts.length) := by show j = acts.length; omega
      have HR := (show Hid (PlOn W wr pb (fun D => J D ∧ Sz (400 * acts.length) D)) from by rw [← hje.out]; exact HOn.out)
      clear HOn
      go_wp2
      go_ret
      exact ⟨pb, rfl, HR.out⟩
end
end Go.Proofs.YtfccelbmacjifaaGreat

