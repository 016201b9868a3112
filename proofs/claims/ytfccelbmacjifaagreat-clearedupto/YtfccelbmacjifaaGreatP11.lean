import Derived.Test.YtfccelbmacjifaaGreatP1
import Derived.Test.YtfccelbmacjifaaGreatRows
import Derived.WalkSpells
import Derived.Deep.QuietTactic
import Derived.BigQuiet
set_option linter.unusedSimpArgs false
namespace Go.Proofs.YtfccelbmacjifaaGreat
/-! ### What the calls' contracts want of sizes, kept by every call (a list) -/
def SmallAns (a : BAns) : Prop := a.spans.length ≤ 16 ∧ ∀ l ∈ a.spans, l.length ≤ 64
theorem SmallAns.zero {a : BAns} (h : a.spans = []) : SmallAns a := ⟨by rw [h]; simp, by rw [h]; simp⟩
structure FitK (N : Nat) (k : PWork) : Prop where
  kd : k.kind = 1 ∨ k.kind = 2 ∨ k.kind = 3 ∨ k.kind = 4
  nx : 1 ≤ k.next ∧ k.next ≤ 13
  rd : (k.kind = 3 ∨ k.kind = 4) → k.next ≤ 4 ∨ k.next = 13
  made : k.made.length ≤ 2 ∧ (k.next ≤ 7 → k.made = [])
  locks : k.locks ≤ 2
  links : k.kind = 4 → k.next ≤ 4 → k.links.length = 1
  spans : k.kind = 4 → k.spans.length ≤ 16
  noted : k.noted.length ≤ N
  ans : SmallAns k.ans
abbrev FitT (N : Nat) (t : PThread) : Prop := FitK N t.work
structure Fit (N : Nat) (P : PSt) : Prop where
  kind : P.kind = 0
  clk : 0 ≤ P.clock ∧ P.clock ≤ P.limit
  lim : P.limit ≤ 1099511627776
  thr : 1 ≤ P.ts.length ∧ P.ts.length ≤ 8
  swp : P.sweep.made ≤ P.ts.length + 2 ∧ P.sweep.retired.length ≤ 66
  th : ∀ (i : Nat) t, P.ts[i]? = some t → (t.busy = true → FitT N t) ∧ SmallAns t.last
section
variable {N : Nat} {P : PSt} {i : Nat} {t : PThread}
theorem FitK.mono {N' : Nat} {k : PWork} (h : FitK N k) (hN : N ≤ N') : FitK N' k := ⟨h.kd, h.nx, h.rd, h.made, h.locks, h.links, h.spans, Nat.le_trans h.noted hN, h.ans⟩
theorem Fit.mono {N' : Nat} (h : Fit N P) (hN : N ≤ N') : Fit N' P := ⟨h.kind, h.clk, h.lim, h.thr, h.swp, fun i t ht => ⟨fun hb => ((h.th i t ht).1 hb).mono hN, (h.th i t ht).2⟩⟩
theorem setW_eq (P : PSt) {i : Nat} {t : PThread} (ht : P.ts[i]? = some t) (k : PWork) : P.ts.modify i (fun t => { t with work := k }) = P.ts.set i { t with work := k } := by
  apply List.ext_getElem?
  intro j
  rw [List.getElem?_modify, List.getElem?_set]
  by_cases e : i = j
  · subst e
    obtain ⟨h1, h2⟩ := List.getElem?_eq_some_iff.1 ht
    simp [h1, h2]
  · simp [e]
/-- What a step does to the store, but for the memory. -/
structure Turned (N : Nat) (P : PSt) (i : Nat) (t : PThread) (R : PSt × Int) : Prop where
  to : ∃ M c t', R.1 = { P with mem := M, clock := c, ts := P.ts.set i t' } ∧ (c = P.clock ∨ (c = P.clock + 1 ∧ P.clock < P.limit)) ∧ (t'.busy = true → FitT (N + 1) t') ∧ SmallAns t'.last ∧ t'.busy = (if R.2 = 3 then false else true) ∧ (R.2 ≠ 3 → t'.hasEnded = t.hasEnded ∧ t'.last = t.last)
  how : 1 ≤ R.2 ∧ R.2 ≤ 3
theorem answerOf_small (spans noted : List (Int × Int)) (st : Int) (h : spans.length ≤ 16) : SmallAns (answerOf spans noted st) := by
  unfold answerOf
  split
  · exact SmallAns.zero rfl
  · next hh =>
    refine ⟨by simp [spanLists, h], ?_⟩
    have key : ∀ (ll : List (List (Int × Int))) l, l ∈ ll → l.length ≤ lensOf ll := by
      intro ll
      induction ll with
      | nil => intro l hl; simp at hl
      | cons a r ih =>
        intro l hl
        rw [lensOf]
        rcases List.mem_cons.1 hl with rfl | hl
        · omega
        · have := ih l hl; omega
    intro l hl
    have := key _ l hl
    simp only at this
    omega
theorem Turned.work (ht : P.ts[i]? = some t) (hb : t.busy = true) (hl : SmallAns t.last) {M : PMem} {c : Int} {k : PWork} {n : Int} (hn : n = 1 ∨ n = 2) (hc : c = P.clock ∨ (c = P.clock + 1 ∧ P.clock < P.limit)) (hk : FitT (N + 1) { t with work := k }) :
    Turned N P i t (({ P with mem := M, clock := c } : PSt).setW i k, n) := by
  refine ⟨⟨M, c, { t with work := k }, ?_, hc, fun _ => hk, hl, ?_, fun _ => ⟨rfl, rfl⟩⟩, by show 1 ≤ n ∧ n ≤ 3; omega⟩
  · unfold PSt.setW
    simp only
    rw [setW_eq P ht]
  · rw [if_neg (show ¬ n = 3 by omega)]; exact hb
theorem Turned.same (ht : P.ts[i]? = some t) (hb : t.busy = true) (hl : SmallAns t.last) (hk : FitT N t) {n : Int} (hn : n = 1 ∨ n = 2) : Turned N P i t (P, n) := by
  refine ⟨⟨P.mem, P.clock, t, ?_, .inl rfl, fun _ => hk.mono (Nat.le_succ N), hl, ?_, fun _ => ⟨rfl, rfl⟩⟩, by show 1 ≤ n ∧ n ≤ 3; omega⟩
  · have : P.ts.set i t = P.ts := by
      apply List.ext_getElem?
      intro j
      rw [List.getElem?_set]
      split
      · next e => subst e; split <;> simp_all
      · rfl
    simp only
    rw [this]
  · rw [if_neg (show ¬ n = 3 by omega)]; exact hb
theorem Fit.turn (h : Fit N P) (ht : P.ts[i]? = some t) (hb : t.busy = true) : Turned N P i t (P.step i t) := by
  obtain ⟨hT, hl⟩ := h.th i t ht
  have hT := hT hb
  have hk0 := h.kind
  have hnx := hT.nx
  have m1 := hT.made
  have fit : ∀ k : PWork, k.kind = t.work.kind → (1 ≤ k.next ∧ k.next ≤ 13) → ((k.kind = 3 ∨ k.kind = 4) → k.next ≤ 4 ∨ k.next = 13) → (k.made.length ≤ 2 ∧ (k.next ≤ 7 → k.made = [])) → k.locks ≤ 2 → (k.kind = 4 → k.next ≤ 4 → k.links.length = 1) → k.spans = t.work.spans → k.noted.length ≤ N + 1 → SmallAns k.ans → FitK (N + 1) k := by
    intro k e1 e2 e3 e4 e5 e6 e7 e8 e9
    exact ⟨by show k.kind = 1 ∨ _; rw [e1]; exact hT.kd, e2, e3, e4, e5, e6, fun h4 => by show k.spans.length ≤ 16; rw [e7]; exact hT.spans (e1 ▸ h4), e8, e9⟩
  have hN : t.work.noted.length ≤ N + 1 := Nat.le_trans hT.noted (Nat.le_succ N)
  have sT : ∀ (t' : PThread) n, t'.busy = true → t'.last = t.last → t'.hasEnded = t.hasEnded → FitT (N + 1) t' → (n = 1 ∨ n = 2) → Turned N P i t (P.setT i t', n) := by
    intro t' n hb' hl' he' hf hn
    refine ⟨⟨P.mem, P.clock, t', rfl, .inl rfl, fun _ => hf, hl' ▸ hl, ?_, fun _ => ⟨he', hl'⟩⟩, by show 1 ≤ n ∧ n ≤ 3; omega⟩
    rw [if_neg (show ¬ n = 3 by omega)]; exact hb'
  have hkd := hT.kd
  have upd : ¬ (t.work.kind = 3 ∨ t.work.kind = 4) → ∀ k : PWork, k.kind = t.work.kind → ¬ (k.kind = 3 ∨ k.kind = 4) := fun h1 k e => e ▸ h1
  unfold PSt.step
  split
  · next hn => exact sT _ 1 hb rfl rfl (fit _ rfl (by constructor <;> (simp only; omega)) (fun hr => .inl (by simp only; omega)) ⟨m1.1, fun _ => m1.2 (by omega)⟩ hT.locks (fun h4 _ => hT.links h4 (by omega)) rfl hN hT.ans) (.inl rfl)
  · next hn => exact sT _ 1 hb rfl rfl (fit _ rfl (by constructor <;> (simp only; omega)) (fun hr => .inl (by simp only; omega)) ⟨m1.1, fun _ => m1.2 (by omega)⟩ hT.locks (fun h4 _ => hT.links h4 (by omega)) rfl hN hT.ans) (.inl rfl)
  · next hn => exact sT _ 1 hb rfl rfl (fit t.work.home rfl (by simp [PWork.home]) (fun hr => .inl (by simp [PWork.home])) ⟨m1.1, fun _ => m1.2 (by omega)⟩ hT.locks (fun h4 _ => hT.links h4 (by omega)) rfl hN hT.ans) (.inl rfl)
  · next hn =>
    refine ⟨⟨P.mem, P.clock, t.leave, rfl, .inl rfl, fun hh => ?_, hT.ans, ?_, fun hh => absurd rfl hh⟩, by show (1 : Int) ≤ 3 ∧ (3 : Int) ≤ 3; decide⟩
    · simp [PThread.leave] at hh
    · simp [PThread.leave]
  · next n1 n2 n3 n13 =>
    have n1' : t.work.next ≠ 1 := n1
    have n2' : t.work.next ≠ 2 := n2
    have n3' : t.work.next ≠ 3 := n3
    have n13' : t.work.next ≠ 13 := n13
    split
    · next hr =>
      -- a read
      have hn4 : t.work.next = 4 := by have := hT.rd hr; omega
      unfold PSt.read
      simp only
      split
      · exact Turned.same ht hb hl hT (.inr rfl)
      · have goal : ∀ k : PWork, FitT (N + 1) { t with work := k } → Turned N P i t (P.setW i k, 1) := fun k hk => Turned.work (M := P.mem) (c := P.clock) ht hb hl (.inl rfl) (.inl rfl) hk
        by_cases h3 : t.work.kind = 3
        · rw [if_pos h3]
          apply goal
          unfold PSt.lookUp
          split
          · exact fit _ rfl (by simp only; omega) (fun _ => .inl (by simp only; omega)) ⟨m1.1, fun _ => m1.2 (by omega)⟩ hT.locks (fun h4 => by have : t.work.kind = 4 := h4; omega) rfl hN hT.ans
          · refine fit _ rfl (by simp [PWork.conclude]) (fun _ => .inr rfl) ⟨m1.1, fun hh => by simp [PWork.conclude] at hh⟩ hT.locks (fun h4 => absurd h4 (by simp [PWork.conclude, h3])) rfl hN ?_
            simp only [PWork.conclude]
            split <;> exact SmallAns.zero rfl
        · have h4 : t.work.kind = 4 := by omega
          rw [if_neg h3]
          apply goal
          have hlk := hT.links h4 (by omega)
          have hsp := hT.spans h4
          unfold PSt.scan
          simp only
          have hno : ∀ (b : Bool) (q : Int × Int), (if b = true then t.work.noted ++ [q] else t.work.noted).length ≤ N + 1 := by
            intro b q
            have := hT.noted
            split
            · rw [List.length_append]; simp; omega
            · omega
          split
          · exact fit _ rfl (by simp [PWork.conclude]) (fun _ => .inr rfl) ⟨m1.1, fun hh => by simp [PWork.conclude] at hh⟩ hT.locks (fun _ hh => by simp [PWork.conclude] at hh) rfl (hno _ _) (answerOf_small _ _ _ hsp)
          · next hne =>
            refine fit _ rfl (by simp [hn4]) (fun _ => .inl (by simp [hn4])) ⟨m1.1, fun _ => m1.2 (by omega)⟩ hT.locks (fun _ _ => ?_) rfl (hno _ _) hT.ans
            simp only [List.length_append, List.length_drop, hlk] at hne ⊢
            unfold PSt.linksWithin at hne ⊢
            rw [if_pos hk0] at hne ⊢
            split
            · rfl
            · next hh => rw [if_neg hh] at hne; simp at hne
    · next hr =>
      -- an update
      have hnr : ∀ k : PWork, k.kind = t.work.kind → ¬ (k.kind = 3 ∨ k.kind = 4) := upd hr
      have n4 : ∀ k : PWork, k.kind = t.work.kind → ¬ k.kind = 4 := fun k e h4 => hnr k e (.inr h4)
      have go : ∀ (M : PMem) (c : Int) (k : PWork), (c = P.clock ∨ (c = P.clock + 1 ∧ P.clock < P.limit)) → k.kind = t.work.kind → (1 ≤ k.next ∧ k.next ≤ 13) → (k.made.length ≤ 2 ∧ (k.next ≤ 7 → k.made = [])) → k.locks ≤ 2 → k.spans = t.work.spans → k.noted = t.work.noted → SmallAns k.ans → Turned N P i t (({ P with mem := M, clock := c } : PSt).setW i k, 1) := by
        intro M c k hc e1 e2 e3 e4 e5 e6 e7
        exact Turned.work ht hb hl (.inl rfl) hc (fit k e1 e2 (fun hh => absurd hh (hnr k e1)) e3 e4 (fun hh => absurd hh (n4 k e1)) e5 (e6 ▸ hN) e7)
      unfold PSt.update
      split
      · next hn =>
        refine go P.mem P.clock _ (.inl rfl) ?_ ?_ ?_ ?_ ?_ ?_ ?_ <;> unfold PSt.walk <;> split
        all_goals first | rfl | exact hT.ans | exact hT.locks | (simp only; omega) | exact ⟨m1.1, fun _ => m1.2 (by omega)⟩
      · next hn =>
        unfold PSt.lock
        split
        · next hlt =>
          have hwl : (P.wanted t.work).length ≤ 2 := by
            unfold PSt.wanted
            split
            · split <;> simp
            · simp
          split
          · refine go _ P.clock _ (.inl rfl) rfl ?_ ⟨m1.1, fun _ => m1.2 (by omega)⟩ (by simp only; omega) rfl rfl hT.ans
            simp only
            split <;> omega
          · exact Turned.same ht hb hl hT (.inr rfl)
        · exact go P.mem P.clock _ (.inl rfl) rfl (by simp) ⟨m1.1, fun _ => m1.2 (by omega)⟩ hT.locks rfl rfl hT.ans
      · next hn =>
        unfold PSt.check
        split
        · exact go _ P.clock _ (.inl rfl) rfl (by simp [PWork.home]) ⟨m1.1, fun _ => m1.2 (by omega)⟩ (by simp [PWork.home]) rfl rfl hT.ans
        · split
          · exact go P.mem P.clock _ (.inl rfl) rfl (by simp [PWork.settle]) ⟨m1.1, fun hh => by simp [PWork.settle] at hh⟩ hT.locks rfl rfl (SmallAns.zero rfl)
          · exact go P.mem P.clock _ (.inl rfl) rfl (by simp) ⟨m1.1, fun _ => m1.2 (by omega)⟩ hT.locks rfl rfl hT.ans
      · next hn =>
        have hm0 := m1.2 (by omega)
        unfold PSt.prepare
        split
        · exact go P.mem P.clock _ (.inl rfl) rfl (by simp [PWork.settle]) ⟨m1.1, fun hh => by simp [PWork.settle] at hh⟩ hT.locks rfl rfl (SmallAns.zero rfl)
        · refine go _ P.clock _ (.inl rfl) ?_ (by simp) ?_ ?_ ?_ ?_ ?_ <;> by_cases h1 : t.work.kind = 1 <;> simp only [h1, if_true, if_false] <;> first | (unfold PSt.prepareInsert; simp only [hk0, if_true, hm0]) | (unfold PSt.prepareRemove; simp only [hk0, if_true, hm0])
          all_goals first | rfl | exact hT.ans | exact hT.locks | exact h1 | (constructor <;> simp)
      · next hn =>
        unfold PSt.take
        split
        · exact go _ P.clock _ (.inl rfl) rfl (by simp [PWork.settle]) ⟨m1.1, fun hh => by simp [PWork.settle] at hh⟩ hT.locks rfl rfl (SmallAns.zero rfl)
        · next hlim =>
          have hc : P.clock + 1 = P.clock ∨ (P.clock + 1 = P.clock + 1 ∧ P.clock < P.limit) := .inr ⟨rfl, by omega⟩
          simp only
          split
          · exact go P.mem (P.clock + 1) _ hc rfl (by simp) ⟨m1.1, fun hh => by simp at hh⟩ hT.locks rfl rfl (SmallAns.zero rfl)
          · exact go _ (P.clock + 1) _ hc rfl (by simp) ⟨m1.1, fun hh => by simp at hh⟩ hT.locks rfl rfl (SmallAns.zero rfl)
      · exact go _ P.clock _ (.inl rfl) rfl (by simp) ⟨m1.1, fun hh => by simp at hh⟩ hT.locks rfl rfl hT.ans
      · exact go _ P.clock _ (.inl rfl) rfl (by simp) ⟨m1.1, fun hh => by simp at hh⟩ hT.locks rfl rfl hT.ans
      · exact go _ P.clock _ (.inl rfl) rfl (by simp) ⟨m1.1, fun hh => by simp at hh⟩ hT.locks rfl rfl hT.ans
      · exact go _ P.clock _ (.inl rfl) rfl (by simp) ⟨m1.1, fun hh => by simp at hh⟩ (by simp) rfl rfl hT.ans
      · exact Turned.same ht hb hl hT (.inl rfl)
theorem Fit.of (h : Fit N P) (hi : i < P.ts.length) {M : PMem} {c : Int} {t' : PThread} (hc : c = P.clock ∨ (c = P.clock + 1 ∧ P.clock < P.limit)) (h1 : t'.busy = true → FitT (N + 1) t') (h2 : SmallAns t'.last) : Fit (N + 1) { P with mem := M, clock := c, ts := P.ts.set i t' } := by
  refine ⟨h.kind, ?_, h.lim, by simpa using h.thr, by simpa using h.swp, ?_⟩
  · have := h.clk
    show 0 ≤ c ∧ c ≤ P.limit
    omega
  · intro j u hu
    simp only [List.getElem?_set] at hu
    by_cases e : i = j
    · rw [if_pos e, if_pos hi] at hu
      obtain rfl := Option.some.inj hu
      exact ⟨h1, h2⟩
    · rw [if_neg e] at hu
      exact ⟨fun hb => ((h.th j u hu).1 hb).mono (Nat.le_succ N), (h.th j u hu).2⟩
theorem Fit.step (h : Fit N P) (ht : P.ts[i]? = some t) (hb : t.busy = true) : Fit (N + 1) (P.step i t).1 := by
  obtain ⟨M, c, t', e, hc, h1, h2, _⟩ := (h.turn ht hb).to
  rw [e]
  exact h.of (List.getElem?_eq_some_iff.1 ht).1 hc h1 h2
theorem Fit.begin (h : Fit N P) (i kind key value : Int) (spans : List (Int × Int)) : Fit N (P.begin i kind key value spans).1 := by
  unfold PSt.begin
  split
  · next hI =>
    have hb := isIn_iff.1 hI
    split
    · exact h
    · split
      · next hk =>
        obtain ⟨j, rfl⟩ := Int.eq_ofNat_of_zero_le hb.1
        have hj : j < P.ts.length := by omega
        have ht : P.ts[j]? = some (P.th j) := by simp [PSt.th, List.getElem?_eq_getElem hj]
        refine ⟨h.kind, h.clk, h.lim, by simpa [PSt.setT] using h.thr, by simpa [PSt.setT] using h.swp, ?_⟩
        intro q u hu
        simp only [PSt.setT, Int.toNat_natCast, List.getElem?_set] at hu
        by_cases e : j = q
        · rw [if_pos e, if_pos hj] at hu
          obtain rfl := Option.some.inj hu
          refine ⟨fun _ => ?_, (h.th j _ ht).2⟩
          unfold checkOp at hk
          have hkd : kind = 1 ∨ kind = 2 ∨ kind = 3 ∨ kind = 4 := by
            by_cases h1 : kind = 1 ∨ kind = 2 ∨ kind = 3
            · omega
            · rw [if_neg h1] at hk
              by_cases h4 : kind = 4
              · omega
              · rw [if_neg h4] at hk; cases hk
          have hsp : kind = 4 → spans.length ≤ 16 := by
            intro h4
            rw [if_neg (by omega), if_pos h4] at hk
            split at hk
            · next hh =>
              simp only [Bool.and_eq_true] at hh
              have := isIn_iff.1 hh.1
              omega
            · cases hk
          have hnw : (newWork kind key value spans).kind = kind ∧ (newWork kind key value spans).next = 1 ∧ (newWork kind key value spans).made = [] ∧ (newWork kind key value spans).locks = 0 ∧ (kind = 4 → (newWork kind key value spans).links.length = 1 ∧ (newWork kind key value spans).spans = spans) ∧ (newWork kind key value spans).noted = [] ∧ (newWork kind key value spans).ans.spans = [] := by
            unfold newWork
            simp only
            rcases hkd with rfl | rfl | rfl | rfl <;> simp [PWork.zero]
          obtain ⟨a1, a2, a3, a4, a5, a6, a7⟩ := hnw
          refine ⟨by show (newWork kind key value spans).kind = 1 ∨ _; rw [a1]; exact hkd, by show 1 ≤ (newWork kind key value spans).next ∧ _; rw [a2]; decide, fun _ => .inl (by show (newWork kind key value spans).next ≤ 4; rw [a2]; decide), ⟨by show (newWork kind key value spans).made.length ≤ 2; rw [a3]; simp, fun _ => a3⟩, by show (newWork kind key value spans).locks ≤ 2; rw [a4]; decide, fun h4 _ => (a5 (a1 ▸ h4)).1, fun h4 => by show (newWork kind key value spans).spans.length ≤ 16; rw [(a5 (a1 ▸ h4)).2]; exact hsp (a1 ▸ h4), by show (newWork kind key value spans).noted.length ≤ N; rw [a6]; simp, SmallAns.zero a7⟩
        · rw [if_neg e] at hu
          exact h.th q u hu
      · exact h
  · exact h
theorem retired_le : ∀ (l : List PNode) (i : Nat), (retiredFrom l i).length ≤ l.length
  | [], _ => Nat.le_refl _
  | x :: r, i => by
    rw [retiredFrom]
    have := retired_le r (i + 1)
    split <;> simp <;> omega
theorem Fit.sweep (h : Fit N P) (hn : P.mem.ns.length ≤ 66) : Fit N P.doSweep.1 ∧ 1 ≤ P.doSweep.2 ∧ P.doSweep.2 ≤ 3 := by
  have hs := h.swp
  unfold PSt.doSweep
  simp only
  split
  · refine ⟨⟨h.kind, h.clk, h.lim, h.thr, ⟨?_, ?_⟩, h.th⟩, by simp, by simp⟩
    · show 1 ≤ _; omega
    · exact Nat.le_trans (retired_le _ _) hn
  · split
    · split
      · exact ⟨h, by simp, by simp⟩
      · refine ⟨⟨h.kind, h.clk, h.lim, h.thr, ⟨?_, ?_⟩, h.th⟩, by simp, by simp⟩
        · show P.sweep.made + 1 ≤ _; simp only; omega
        · show (PSweep.lookAt _ _).retired.length ≤ 66
          unfold PSweep.lookAt
          split <;> exact hs.2
    · split
      · refine ⟨⟨h.kind, h.clk, h.lim, h.thr, ⟨?_, hs.2⟩, h.th⟩, by simp, by simp⟩
        show P.sweep.made + 1 ≤ P.ts.length + 2; omega
      · exact ⟨⟨h.kind, h.clk, h.lim, h.thr, ⟨by show 0 ≤ _; omega, by simp [PSweep.zero]⟩, h.th⟩, by simp, by simp⟩
end
end Go.Proofs.YtfccelbmacjifaaGreat

namespace Go.Proofs.YtfccelbmacjifaaGreat
open Go.RowKit

def PNode.cells (n : PNode) : List Value :=
  [.int .i64 n.key, .int .i64 n.value, .bool n.dead, .bool n.retired, .int .i64 n.retiredAt, .bool n.used, .int .i64 n.holder, .int .i64 n.links, .int .i64 (n.leads false), .int .i64 (n.leads true)]
theorem PNode.cells_len (n : PNode) : n.cells.length = 10 := rfl
theorem PNode.cells_one (n : PNode) : ∀ u ∈ n.cells, u.oneCell' = true := by
  intro u hu; simp only [PNode.cells, List.mem_cons, List.not_mem_nil, or_false] at hu
  rcases hu with rfl | rfl | rfl | rfl | rfl | rfl | rfl | rfl | rfl | rfl <;> rfl
def PEntry.cells (e : PEntry) : List Value := [.bool e.used, .bool e.pending, .int .i64 e.src, .int .i64 (b2i e.side), .int .i64 e.dst, .int .i64 e.stamp]
theorem PEntry.cells_len (e : PEntry) : e.cells.length = 6 := rfl
theorem PEntry.cells_one (n : PEntry) : ∀ u ∈ n.cells, u.oneCell' = true := by
  intro u hu; simp only [PEntry.cells, List.mem_cons, List.not_mem_nil, or_false] at hu
  rcases hu with rfl | rfl | rfl | rfl | rfl | rfl <;> rfl

/-- The memory's block m: the nodes in block nb, the entries in block eb. -/
structure MemAt (w : World) (m nb ncap eb ecap : Nat) (ns : List PNode) (es : List PEntry) : Prop where
  hd : At w m [.slice (some ⟨nb, 0, none⟩) ns.length ncap, .slice (some ⟨eb, 0, none⟩) es.length ecap] 164
  nodes : w.ownsRow 0 166 10 (.slice (some ⟨nb, 0, none⟩) ns.length ncap) ns.length (ns.flatMap PNode.cells)
  ents : w.ownsRow 0 168 6 (.slice (some ⟨eb, 0, none⟩) es.length ecap) es.length (es.flatMap PEntry.cells)
  nsmall : ns.length ≤ 66
  esmall : es.length ≤ 256

section
variable {w : World} {m nb ncap eb ecap : Nat} {ns : List PNode} {es : List PEntry}
theorem MemAt.node (h : MemAt w m nb ncap eb ecap ns es) {i : Nat} {x : PNode} (hx : ns[i]? = some x) {j : Nat} {u : Value} (hu : x.cells[j]? = some u) : w.cell? ⟨nb, i * 10 + j, none⟩ = some u := by
  have hj : j < 10 := by have := (List.getElem?_eq_some_iff.1 hu).1; simpa [PNode.cells_len] using this
  exact ownsRow_cell h.nodes ((tab_get PNode.cells 10 PNode.cells_len ns i j x hx hj).trans hu)
theorem MemAt.ent (h : MemAt w m nb ncap eb ecap ns es) {i : Nat} {x : PEntry} (hx : es[i]? = some x) {j : Nat} {u : Value} (hu : x.cells[j]? = some u) : w.cell? ⟨eb, i * 6 + j, none⟩ = some u := by
  have hj : j < 6 := by have := (List.getElem?_eq_some_iff.1 hu).1; simpa [PEntry.cells_len] using this
  exact ownsRow_cell h.ents ((tab_get PEntry.cells 6 PEntry.cells_len es i j x hx hj).trans hu)
theorem MemAt.apart (h : MemAt w m nb ncap eb ecap ns es) : m ≠ nb ∧ m ≠ eb ∧ nb ≠ eb := by
  have h1 := h.hd.ne_row h.nodes (by decide)
  have h2 := h.hd.ne_row h.ents (by decide)
  have h3 := ownsRow_ne h.nodes h.ents (by decide)
  simp [Value.ownBlock] at h1 h2 h3
  exact ⟨fun e => h1 e.symm, fun e => h2 e.symm, h3⟩
theorem MemAt.drew (h : MemAt w m nb ncap eb ecap ns es) : MemAt w.drew m nb ncap eb ecap ns es := ⟨h.hd, h.nodes, h.ents, h.nsmall, h.esmall⟩
theorem MemAt.fr {S : Nat → Prop} {w' : World} (h : MemAt w m nb ncap eb ecap ns es) (hf : Fr S w w') (hm : ¬ S m) (hn : ¬ S nb) (he : ¬ S eb) : MemAt w' m nb ncap eb ecap ns es :=
  ⟨hf.at h.hd hm, hf.owns h.nodes (fun k hk => by simp [Value.ownBlock] at hk; subst hk; exact hn), hf.owns h.ents (fun k hk => by simp [Value.ownBlock] at hk; subst hk; exact he), h.nsmall, h.esmall⟩
theorem MemAt.setEnt (h : MemAt w m nb ncap eb ecap ns es) {i : Nat} {x : PEntry} (hx : es[i]? = some x) (j : Nat) (y : PEntry) (u : Value) (hj : j < 6) (hs : x.cells.set j u = y.cells) :
    MemAt (w.setCell ⟨eb, i * 6 + j, none⟩ u) m nb ncap eb ecap ns (es.set i y) := by
  obtain ⟨h1, h2, h3⟩ := h.apart
  have hl : (es.set i y).length = es.length := by simp
  refine ⟨by rw [hl]; exact h.hd.setOther _ h2 _, ownsRow_setOther h.nodes (by simpa [Value.ownBlock] using h3) _, ?_, h.nsmall, by rw [hl]; exact h.esmall⟩
  rw [hl, ← tab_set PEntry.cells 6 PEntry.cells_len es i j x y u hx hj hs]
  exact ownsRow_set h.ents _ _
theorem MemAt.setNode (h : MemAt w m nb ncap eb ecap ns es) {i : Nat} {x : PNode} (hx : ns[i]? = some x) (j : Nat) (y : PNode) (u : Value) (hj : j < 10) (hs : x.cells.set j u = y.cells) :
    MemAt (w.setCell ⟨nb, i * 10 + j, none⟩ u) m nb ncap eb ecap (ns.set i y) es := by
  obtain ⟨h1, h2, h3⟩ := h.apart
  have hl : (ns.set i y).length = ns.length := by simp
  refine ⟨by rw [hl]; exact h.hd.setOther _ h1 _, ?_, ownsRow_setOther h.ents (by simpa [Value.ownBlock] using h3.symm) _, by rw [hl]; exact h.nsmall, h.esmall⟩
  rw [hl, ← tab_set PNode.cells 10 PNode.cells_len ns i j x y u hx hj hs]
  exact ownsRow_set h.nodes _ _
theorem get_set_same {α : Type} {l : List α} {i : Nat} {x y : α} (hx : l[i]? = some x) : (l.set i y)[i]? = some y := by
  have := (List.getElem?_eq_some_iff.1 hx).1
  simp [this]
/-- A whole entry is written. -/
theorem MemAt.putEnt (h : MemAt w m nb ncap eb ecap ns es) {i : Nat} {x : PEntry} (hx : es[i]? = some x) (y : PEntry) :
    MemAt ((((((w.setCell ⟨eb, i * 6, none⟩ (.bool y.used)).setCell ⟨eb, i * 6 + 1, none⟩ (.bool y.pending)).setCell ⟨eb, i * 6 + 2, none⟩ (.int .i64 y.src)).setCell ⟨eb, i * 6 + 3, none⟩ (.int .i64 (b2i y.side))).setCell
      ⟨eb, i * 6 + 4, none⟩ (.int .i64 y.dst)).setCell ⟨eb, i * 6 + 5, none⟩ (.int .i64 y.stamp)) m nb ncap eb ecap ns (es.set i y) := by
  have a0 := h.setEnt hx 0 { x with used := y.used } (.bool y.used) (by decide) rfl
  have a1 := a0.setEnt (get_set_same hx) 1 { x with used := y.used, pending := y.pending } (.bool y.pending) (by decide) rfl
  have a2 := a1.setEnt (get_set_same (get_set_same hx)) 2 { y with side := x.side, dst := x.dst, stamp := x.stamp } (.int .i64 y.src) (by decide) rfl
  have a3 := a2.setEnt (get_set_same (get_set_same (get_set_same hx))) 3 { y with dst := x.dst, stamp := x.stamp } (.int .i64 (b2i y.side)) (by decide) rfl
  have a4 := a3.setEnt (get_set_same (get_set_same (get_set_same (get_set_same hx)))) 4 { y with stamp := x.stamp } (.int .i64 y.dst) (by decide) rfl
  have a5 := a4.setEnt (get_set_same (get_set_same (get_set_same (get_set_same (get_set_same hx))))) 5 y (.int .i64 y.stamp) (by decide) rfl
  simpa [List.set_set] using a5
/-- A whole node is written. -/
theorem MemAt.putNode (h : MemAt w m nb ncap eb ecap ns es) {i : Nat} {x : PNode} (hx : ns[i]? = some x) (y : PNode) :
    MemAt ((((((((((w.setCell ⟨nb, i * 10, none⟩ (.int .i64 y.key)).setCell ⟨nb, i * 10 + 1, none⟩ (.int .i64 y.value)).setCell ⟨nb, i * 10 + 2, none⟩ (.bool y.dead)).setCell ⟨nb, i * 10 + 3, none⟩ (.bool y.retired)).setCell
      ⟨nb, i * 10 + 4, none⟩ (.int .i64 y.retiredAt)).setCell ⟨nb, i * 10 + 5, none⟩ (.bool y.used)).setCell ⟨nb, i * 10 + 6, none⟩ (.int .i64 y.holder)).setCell ⟨nb, i * 10 + 7, none⟩ (.int .i64 y.links)).setCell
      ⟨nb, i * 10 + 8, none⟩ (.int .i64 (y.leads false))).setCell ⟨nb, i * 10 + 9, none⟩ (.int .i64 (y.leads true))) m nb ncap eb ecap (ns.set i y) es := by
  have a0 := h.setNode hx 0 { x with key := y.key } (.int .i64 y.key) (by decide) rfl
  have g0 := get_set_same (y := { x with key := y.key }) hx
  have a1 := a0.setNode g0 1 { x with key := y.key, value := y.value } (.int .i64 y.value) (by decide) rfl
  have g1 := get_set_same (y := { x with key := y.key, value := y.value }) g0
  have a2 := a1.setNode g1 2 { x with key := y.key, value := y.value, dead := y.dead } (.bool y.dead) (by decide) rfl
  have g2 := get_set_same (y := { x with key := y.key, value := y.value, dead := y.dead }) g1
  have a3 := a2.setNode g2 3 { x with key := y.key, value := y.value, dead := y.dead, retired := y.retired } (.bool y.retired) (by decide) rfl
  have g3 := get_set_same (y := { x with key := y.key, value := y.value, dead := y.dead, retired := y.retired }) g2
  have a4 := a3.setNode g3 4 { x with key := y.key, value := y.value, dead := y.dead, retired := y.retired, retiredAt := y.retiredAt } (.int .i64 y.retiredAt) (by decide) rfl
  have g4 := get_set_same (y := { x with key := y.key, value := y.value, dead := y.dead, retired := y.retired, retiredAt := y.retiredAt }) g3
  have a5 := a4.setNode g4 5 { y with holder := x.holder, links := x.links, leads := x.leads } (.bool y.used) (by decide) rfl
  have g5 := get_set_same (y := { y with holder := x.holder, links := x.links, leads := x.leads }) g4
  have a6 := a5.setNode g5 6 { y with links := x.links, leads := x.leads } (.int .i64 y.holder) (by decide) rfl
  have g6 := get_set_same (y := { y with links := x.links, leads := x.leads }) g5
  have a7 := a6.setNode g6 7 { y with leads := x.leads } (.int .i64 y.links) (by decide) rfl
  have g7 := get_set_same (y := { y with leads := x.leads }) g6
  have a8 := a7.setNode g7 8 { y with leads := upd x.leads false (y.leads false) } (.int .i64 (y.leads false)) (by decide) rfl
  have g8 := get_set_same (y := { y with leads := upd x.leads false (y.leads false) }) g7
  have a9 := a8.setNode g8 9 y (.int .i64 (y.leads true)) (by decide) rfl
  simpa [List.set_set] using a9
end

end Go.Proofs.YtfccelbmacjifaaGreat

namespace Go.Proofs.YtfccelbmacjifaaGreat
open Go.RowKit

/-- Where the memory lies. -/
structure MLay where
  m : Nat
  nb : Nat
  ncap : Nat
  eb : Nat
  ecap : Nat
abbrev MAt (w : World) (l : MLay) (M : PMem) : Prop := MemAt w l.m l.nb l.ncap l.eb l.ecap M.ns M.es
def lnk (n : Int) (s : Bool) : Value := .agg #[.int .i64 n, .int .i64 (b2i s)]

section
variable {w : World} {l : MLay} {M : PMem}
theorem MAt.same {S : Nat → Prop} {w' : World} (h : MAt w l M) (hf : Fr S w w') (hm : ¬ S l.m) (hn : ¬ S l.nb) (he : ¬ S l.eb) : MAt w' l M := MemAt.fr h hf hm hn he
theorem MAt.same0 {w' : World} (h : MAt w l M) (hf : Fr (fun _ => False) w w') : MAt w' l M := MemAt.fr h hf (fun h => h) (fun h => h) (fun h => h)

set_option maxHeartbeats 400000 in
theorem freeEntry_calls (h : MAt w l M) :
    Calls Tryz.prog 104 #[.pointer (some ⟨l.m, 0, none⟩)] w fun e w' => e = .returned (.int .i64 M.freeEntry) ∧ w' = w := by
  have hc := h.hd.cell
  have hs := h.esmall
  have H : Hid (MAt w l M) := h
  clear h
  unfold PMem.freeEntry
  go_enter Tryz.func104, Tryz.ntmps104
  go_wp2
  go_loop [3, 9] (fun _ i => ∃ k : Nat, k ≤ M.es.length ∧ i = .int .i64 k ∧ Hid (∀ j, j < k → ∀ x, M.es[j]? = some x → (!x.used) = false)) (fun _ i => M.es.length - (intOf i).toNat)
  case atStart => exact ⟨0, Nat.zero_le _, rfl, fun j hj => by omega⟩
  case round =>
    obtain ⟨k, hk, rfl, hall⟩ := hrel
    by_cases hlt : k < M.es.length
    · have hx : Hid (M.es[k]? = some M.es[k]) := List.getElem?_eq_getElem hlt
      generalize M.es[k] = x at hx
      have c0 := MemAt.ent H.out hx.out (j := 0) (u := .bool x.used) rfl
      rw [Nat.add_zero] at c0
      by_cases hu : (!x.used) = true
      · have hf : Hid (find (fun x => !x.used) M.es 0 = k) := find_hit _ M.es k x hx.out hall.out hu
        go_wp2
        go_ret
        exact ⟨ret_int hf.out.symm, rfl⟩
      · have hu' : (!x.used) = false := by simpa using hu
        have hnext : Hid (∀ j, j < k + 1 → ∀ x, M.es[j]? = some x → (!x.used) = false) := by
          intro j hj y hy
          by_cases e : j = k
          · subst e; rw [hx.out] at hy; obtain rfl := Option.some.inj hy; exact hu'
          · exact hall.out j (by omega) y hy
        go_wp2
        go_round
        case rel => exact ⟨k + 1, by omega, by go_num, hnext⟩
        case measure => simp [intOf]; omega
    · have hf : Hid (find (fun x => !x.used) M.es 0 = -1) := find_miss _ M.es (fun j hj y hy => hall.out j (by omega) y hy)
      go_wp2
      go_ret
      exact ⟨ret_int hf.out.symm, rfl⟩

set_option maxHeartbeats 400000 in
theorem hasEntry_calls (h : MAt w l M) (i : Int) :
    Calls Tryz.prog 123 #[.pointer (some ⟨l.m, 0, none⟩), .int .i64 i] w fun e w' => e = .returned (.bool (M.hasEntry i)) ∧ w' = w := by
  have hc := h.hd.cell
  have hs := h.esmall
  clear h
  unfold PMem.hasEntry
  by_cases h1 : 0 ≤ i
  · by_cases h2 : i < M.es.length
    · go_enter Tryz.func123, Tryz.ntmps123
      go_wp2
      go_ret
      exact ⟨ret_bool (isIn_true (by omega)).symm, rfl⟩
    · go_enter Tryz.func123, Tryz.ntmps123
      go_wp2
      go_ret
      exact ⟨ret_bool (isIn_false (by omega)).symm, rfl⟩
  · go_enter Tryz.func123, Tryz.ntmps123
    go_wp2
    go_ret
    exact ⟨ret_bool (isIn_false (by omega)).symm, rfl⟩

set_option maxHeartbeats 400000 in
theorem hasNode_calls (h : MAt w l M) (i : Int) :
    Calls Tryz.prog 103 #[.pointer (some ⟨l.m, 0, none⟩), .int .i64 i] w fun e w' => e = .returned (.bool (M.hasNode i)) ∧ w' = w := by
  have hc := h.hd.cell
  have hs := h.nsmall
  clear h
  unfold PMem.hasNode
  by_cases h1 : 0 ≤ i
  · by_cases h2 : i < M.ns.length
    · go_enter Tryz.func103, Tryz.ntmps103
      go_wp2
      go_ret
      exact ⟨ret_bool (isIn_true (by omega)).symm, rfl⟩
    · go_enter Tryz.func103, Tryz.ntmps103
      go_wp2
      go_ret
      exact ⟨ret_bool (isIn_false (by omega)).symm, rfl⟩
  · go_enter Tryz.func103, Tryz.ntmps103
    go_wp2
    go_ret
    exact ⟨ret_bool (isIn_false (by omega)).symm, rfl⟩

/-- A link in a box of its own. -/
structure Boxed (w0 w : World) (l : MLay) (M : PMem) (b : Nat) (n : Int) (s : Bool) : Prop where
  mem : MAt w l M
  box : At w b [.int .i64 n, .int .i64 (b2i s)] 109
  fr : Fr (fun _ => False) w0 w
theorem Boxed.new (h : MAt w l M) (n : Int) (s : Bool) : Boxed w (w.alloc (.cells #[.int .i64 n, .int .i64 (b2i s)] 109)) l M w.heap.size n s :=
  ⟨MAt.same0 h ((Fr.refl _ _).alloc _), At.new w _ _, (Fr.refl _ _).alloc _⟩
theorem Boxed.drewN {w0 : World} {b : Nat} {n : Int} {s : Bool} (h : Boxed w0 w l M b n s) (q : Nat) : Boxed w0 (w.drewN q) l M b n s := by
  have hf : Fr (fun _ => False) w (w.drewN q) := (Fr.refl _ _).drewN q
  exact ⟨MAt.same0 h.mem hf, hf.at h.box (fun h => h), h.fr.trans hf⟩
theorem Boxed.step {w0 w' : World} {b : Nat} {n : Int} {s : Bool} (h : Boxed w0 w l M b n s) (hf : Fr (fun _ => False) w w') : Boxed w0 w' l M b n s :=
  ⟨MAt.same0 h.mem hf, hf.at h.box (fun h => h), h.fr.trans hf⟩
/-- Only the memory's rows turn. -/
def MFr (l : MLay) (w w' : World) : Prop := Fr (fun k => k = l.nb ∨ k = l.eb) w w'
theorem MFr.of0 {w' : World} (h : Fr (fun _ => False) w w') : MFr l w w' := Fr.mono h (fun _ _ h => h.elim)
theorem MFr.trans {a b c : World} (h : MFr l a b) (k : MFr l b c) : MFr l a c := Fr.trans h k

set_option maxHeartbeats 2000000 in
theorem pending_calls (h : MAt w l M) (n : Int) (s : Bool) :
    Calls Tryz.prog 125 #[.pointer (some ⟨l.m, 0, none⟩), lnk n s] w fun e w' => e = .returned (.int .i64 (M.pending n s)) ∧ Fr (fun _ => False) w w' := by
  have hs := h.esmall
  have HB := (show Hid (Boxed _ _ _ _ _ _ _) from Boxed.new h n s)
  have hc := HB.out.mem.hd.cell
  clear h
  unfold PMem.pending lnk
  go_enter Tryz.func125, Tryz.ntmps125
  go_wp2
  clear hc
  go_loopw [5, 11] (fun _ i wr => ∃ k : Nat, k ≤ M.es.length ∧ i = .int .i64 k ∧ Hid (∀ j, j < k → ∀ x, M.es[j]? = some x → isPd n s x = false) ∧ Hid (Boxed w wr l M w.heap.size n s)) (fun _ i _ => M.es.length - (intOf i).toNat)
  case atStart => exact ⟨0, Nat.zero_le _, rfl, fun j hj => by omega, HB⟩
  case round =>
    clear HB
    obtain ⟨k, hk, rfl, hall, HB⟩ := hrel
    have hc := HB.out.mem.hd.cell
    have hb := HB.out.box.cell
    by_cases hlt : k < M.es.length
    · have hx : Hid (M.es[k]? = some M.es[k]) := List.getElem?_eq_getElem hlt
      generalize M.es[k] = x at hx
      have c0 := MemAt.ent HB.out.mem hx.out (j := 1) (u := .bool x.pending) rfl
      have c1 := MemAt.ent HB.out.mem hx.out (j := 2) (u := .int .i64 x.src) rfl
      have c2 := MemAt.ent HB.out.mem hx.out (j := 3) (u := .int .i64 (b2i x.side)) rfl
      have hnext : Hid (isPd n s x = false → ∀ j, j < k + 1 → ∀ x, M.es[j]? = some x → isPd n s x = false) := by
        intro hu' j hj y hy
        by_cases e : j = k
        · subst e; rw [hx.out] at hy; obtain rfl := Option.some.inj hy; exact hu'
        · exact hall.out j (by omega) y hy
      have hf : Hid (isPd n s x = true → find (isPd n s) M.es 0 = k) := find_hit _ M.es k x hx.out hall.out
      cases hp : x.pending
      · rw [hp] at c0
        go_wp2_with fail
        go_quiet (fail)
        go_wp2
        go_roundw
        case rel => exact ⟨k + 1, by omega, by go_num, hnext.out (by simp [isPd, hp]), HB.out.drewN _⟩
        case measure => simp [intOf]; omega
      · rw [hp] at c0
        cases hq : (x.src == n)
        · cases hr : (b2i x.side == b2i s)
          · go_wp2_with fail
            go_quiet (fail)
            go_wp2
            go_roundw
            case rel => exact ⟨k + 1, by omega, by go_num, hnext.out (by simp [isPd, hp, hq]), HB.out.drewN _⟩
            case measure => simp [intOf]; omega
          · go_wp2_with fail
            go_quiet (fail)
            go_wp2
            go_roundw
            case rel => exact ⟨k + 1, by omega, by go_num, hnext.out (by simp [isPd, hp, hq]), HB.out.drewN _⟩
            case measure => simp [intOf]; omega
        · cases hr : (b2i x.side == b2i s)
          · go_wp2_with fail
            go_quiet (fail)
            go_wp2
            go_roundw
            case rel => exact ⟨k + 1, by omega, by go_num, hnext.out (by rw [b2i_beq] at hr; simp [isPd, hp, hq, hr]), HB.out.drewN _⟩
            case measure => simp [intOf]; omega
          · go_wp2_with fail
            go_quiet (fail)
            go_wp2
            go_ret
            exact ⟨ret_int (hf.out (by rw [b2i_beq] at hr; simp [isPd, hp, hq, hr])).symm, (HB.out.drewN _).fr⟩
    · have hf : Hid (find (isPd n s) M.es 0 = -1) := find_miss _ M.es (fun j hj y hy => hall.out j (by omega) y hy)
      go_wp2
      go_ret
      exact ⟨ret_int hf.out.symm, HB.out.fr⟩
end
end Go.Proofs.YtfccelbmacjifaaGreat

