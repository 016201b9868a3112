import Derived.Test.YtfccelbmacjifaaGreatP20
set_option linter.unusedSimpArgs false
namespace Go.Proofs.YtfccelbmacjifaaGreat
section
variable {f : Nat → Nat} {P : PSt} {R : BSt} {M : PMem}
/-- All of a thread's locks have gone back. -/
theorem InvU.back (h : InvU R) {R' : BSt} {i : Nat} {w w' : BThread} (hw : R.ts[i]? = some w) (hts : R'.ts = R.ts.set i w') (h0 : w'.have_ = 0) (hlen : R'.spots.length = R.spots.length)
    (hsp : ∀ (q : Nat) x', R'.spots[q]? = some x' → ∃ x, R.spots[q]? = some x ∧ x'.owner = if q ∈ w.want.take w.have_ then -1 else x.owner) :
    (∀ (p : Nat) x', R'.spots[p]? = some x' → x'.owner = -1 ∨ ∃ (j : Nat) (v : BThread), R'.ts[j]? = some v ∧ x'.owner = j ∧ p ∈ v.want.take v.have_) ∧
    (∀ (j : Nat) (v : BThread) (p : Nat), R'.ts[j]? = some v → p ∈ v.want.take v.have_ → p < R.spots.length → (R'.sp p).owner = j) := by
  have hi := (List.getElem?_eq_some_iff.1 hw).1
  have hg : ∀ j, R'.ts[j]? = if i = j then some w' else R.ts[j]? := by
    intro j; rw [hts, List.getElem?_set]
    by_cases e : i = j
    · subst e; simp [hi]
    · simp [e]
  constructor
  · intro p x' hx'
    obtain ⟨x, hx, ho⟩ := hsp p x' hx'
    by_cases hp : p ∈ w.want.take w.have_
    · rw [if_pos hp] at ho; exact .inl ho
    · rw [if_neg hp] at ho
      rcases h.own0 p x hx with h1 | ⟨j, v, hv, h1, h2⟩
      · exact .inl (ho.trans h1)
      · right
        have hij : i ≠ j := by
          rintro rfl
          rw [hw] at hv; obtain rfl := Option.some.inj hv
          exact hp h2
        exact ⟨j, v, by rw [hg, if_neg hij]; exact hv, ho.trans h1, h2⟩
  · intro j v p hv hp hpl
    rw [hg] at hv
    split at hv
    · obtain rfl := Option.some.inj hv
      rw [h0] at hp; simp at hp
    · next hij =>
      have h1 := h.own1 j v p hv hp
      obtain ⟨x, hx, ho⟩ := hsp p _ (List.getElem?_eq_getElem (by rw [hlen]; exact hpl))
      have hpn : p ∉ w.want.take w.have_ := by
        intro hm
        have h2 := h.own1 i w p hw hm
        rw [h1] at h2
        exact hij (by omega)
      rw [if_neg hpn] at ho
      rw [sp_of (List.getElem?_eq_getElem (by rw [hlen]; exact hpl)), ho, ← sp_of hx]
      exact h1
theorem unown_len (R : BSt) : ∀ l : List Nat, (R.unown l).spots.length = R.spots.length
  | [] => rfl
  | k :: r => by rw [BSt.unown, unown_len _ r]; simp [BSt.mapSp]
theorem unown_soft (l : List Nat) (i : Nat) (w : BThread) : Soft R ((R.unown l).setTh i w) := by
  obtain ⟨e1, e2, e3, e4, e5, e6, e7, e8, e9⟩ := unown_same R l
  refine ⟨e1, e9, e2, e3, e4, e5, unown_len R l, ?_⟩
  intro p x hx
  refine ⟨if p ∈ l then { x with owner := -1 } else x, by show (R.unown l).spots[p]? = _; rw [unown_get, hx]; rfl, ?_⟩
  split <;> exact ⟨rfl, rfl, rfl, rfl, rfl, rfl, rfl⟩
/-- Whose lock it is. -/
theorem InvU.mine (h : InvU R) {i : Nat} {w : BThread} (hw : R.ts[i]? = some w) {p : Nat} {x : BSpot} (hx : R.spots[p]? = some x) : x.owner = (i : Int) ↔ p ∈ w.want.take w.have_ := by
  constructor
  · intro e
    rcases h.own0 p x hx with h1 | ⟨j, v, hv, h1, h2⟩
    · omega
    · have : j = i := by omega
      subst this
      rw [hw] at hv; obtain rfl := Option.some.inj hv
      exact h2
  · intro hm
    rw [← sp_of hx]; exact h.own1 i w p hw hm
theorem Rel.outdated (h : Rel f P R) {i : Nat} {t : PThread} {w : BThread} (ht : P.ts[i]? = some t) (hw : R.ts[i]? = some w) (hb : w.busy = true) (ha : w.at_ = 6) : P.outdated t.work = !R.holds w := by
  obtain ⟨hU, hW⟩ := h.one ht hw hb
  obtain ⟨c1, c2, c3, c4⟩ := hU.cl (by omega) (by omega)
  obtain ⟨x1, x2, x3⟩ := hU.xl (by omega) (by omega)
  have hst := hW.stand (by omega) (by omega)
  have hah := hW.ahead (by omega) (by omega)
  have hnx := (h.inv.nxt w.x x1.1 x2).1
  have hl := h.leads x1.1 x2 t.work.key
  have haf : P.asFound t.work.stand t.work.ahead t.work.key = (!(R.sp w.x).dead && decide ((R.sp w.x).now false = w.c)) := by
    unfold PSt.asFound
    rw [hst, hah, hl, (h.keyOf x1.1).2.1]
    congr 1
    by_cases e : (R.sp w.x).now false = w.c
    · rw [e]; simp
    · have : f ((R.sp w.x).now false) ≠ f w.c := fun e' => e (h.core.inj _ _ hnx.1 c1.1 e')
      rw [decide_eq_false e, beq_eq_false_iff_ne]; omega
  unfold PSt.outdated BSt.holds
  rw [haf, h.kind, h.inv.kind, hah, (h.keyOf c1.1).2.1, hU.xs]
  cases (R.sp w.x).dead <;> by_cases e : (R.sp w.x).now false = w.c <;> simp [e]

theorem sim6 (h : Rel f P R) {i : Nat} {t : PThread} {w : BThread} (ht : P.ts[i]? = some t) (hw : R.ts[i]? = some w) (hb : w.busy = true) (ha : w.at_ = 6) : (P.step i t).2 = (R.stepL i w).2 ∧ Rel f (P.step i t).1 (R.stepL i w).1 := by
  obtain ⟨hU, hW⟩ := h.one ht hw hb
  have hT := h.th i t w ht hw
  have hn : t.work.next = 6 := hW.next.trans ha
  have hkd : t.work.kind = 1 ∨ t.work.kind = 2 := by rw [hW.kind]; exact hU.kd
  obtain ⟨c1, c2, c3, c4⟩ := hU.cl (by omega) (by omega)
  obtain ⟨x1, x2, x3⟩ := hU.xl (by omega) (by omega)
  obtain ⟨_, hmeet, _⟩ := h.wanted ht hw hb (by omega) (by omega)
  have h6 := hU.h6 (by omega) (by omega)
  have e1 : P.step i t = (P.check i t.work, 1) := by rw [step_update (by omega) (by omega) hkd]; simp only [PSt.update, hn]
  have e2 : R.stepL i w = (R.turns i w, 1) := by simp only [BSt.stepL, ha]
  rw [e1, e2]
  refine ⟨rfl, ?_⟩
  have ho := h.outdated ht hw hb ha
  cases hh : R.holds w
  · rw [hh] at ho
    have e3 : P.check i t.work = (P.setM (P.mem.unlock i)).setT i { t with work := ({ t.work with locks := 0 } : PWork).home } := by
      unfold PSt.check; rw [ho]; simp only [Bool.not_false, if_true]; rw [pset_work (P := P.setM (P.mem.unlock i)) ht]
    have e4 : R.turns i w = (R.unown (w.want.take w.have_)).setTh i ({ w with have_ := 0 } : BThread).home := by
      simp only [BSt.turns, ha, hh]
      simp [BSt.gives, BSt.setTh, List.set_set]
    show Rel f (P.check i t.work) (R.turns i w)
    rw [e3, e4]
    have hsoft : Soft R ((R.unown (w.want.take w.have_)).setTh i ({ w with have_ := 0 } : BThread).home) := unown_soft _ i _
    have hts : ((R.unown (w.want.take w.have_)).setTh i ({ w with have_ := 0 } : BThread).home).ts = R.ts.set i ({ w with have_ := 0 } : BThread).home := by
      show (R.unown (w.want.take w.have_)).ts.set i _ = _
      rw [(unown_same R (w.want.take w.have_)).2.2.2.2.2.1]
    obtain ⟨b1, b2⟩ := h.inv.back (R' := (R.unown (w.want.take w.have_)).setTh i ({ w with have_ := 0 } : BThread).home) hw hts rfl hsoft.len (by
      intro q x' hx'
      have hx'' : (R.unown (w.want.take w.have_)).spots[q]? = some x' := hx'
      rw [unown_get] at hx''
      cases hx : R.spots[q]? with
      | none => rw [hx] at hx''; simp at hx''
      | some x =>
        rw [hx] at hx''; simp at hx''
        refine ⟨x, rfl, ?_⟩
        rw [← hx'']; split <;> rfl)
    have hlt0 := h.inv.s0.1.lt
    refine h.soft hsoft ht hw hts ?_ ?_ rfl ?_
    · refine h.inv.soft hsoft hw hts b1 (fun j v p hv hp => b2 j v p hv hp ?_) ?_ ?_ ?_ (h.inv.lst i w hw) ?_
      · rw [hts, List.getElem?_set] at hv
        by_cases e : i = j
        · subst e
          have hil := (List.getElem?_eq_some_iff.1 hw).1
          simp [hil] at hv; subst hv
          simp [BThread.home] at hp
        · simp [e] at hv
          cases hvb : v.busy
          · rw [h.inv.idle j v hv hvb] at hp; simp at hp
          · exact (h.inv.th j v hv hvb).bw p (List.mem_of_mem_take hp)
      · intro p _ hor; rw [ha] at hor; omega
      · intro _ h8; cases h8
      · intro hbf; exact absurd (hb.symm.trans hbf) (by simp)
      · intro _ hpm
        exact ⟨hU.kd, hU.key, by simp [BThread.home], by rw [hsoft.len]; exact hlt0, by rw [hsoft.len]; exact hU.bc, by rw [hsoft.len]; exact hU.bs, by rw [hsoft.len]; exact hU.bw, by rw [hsoft.len]; exact hU.bn, rfl, hU.sd, by simp [BThread.home], hU.wl, hU.nl, fun _ => rfl, by simp [BThread.home], by simp [BThread.home], by simp [BThread.home], fun _ _ => ⟨hpm 0 h.inv.s0, by simp [BThread.home], .inl rfl⟩, by simp [BThread.home], by simp [BThread.home],
          fun _ => hU.n7 (by omega), by simp [BThread.home], by simp [BThread.home], by simp [BThread.home], by simp [BThread.home], fun _ => hU.an (by omega), by simp [BThread.home], hU.sp⟩
    · exact (h.core.unlock (fun p x hx _ => h.inv.mine hw hx)).congr rfl rfl rfl rfl
    · refine ⟨hT.busy, hT.has, hT.last, fun _ => ?_⟩
      exact ⟨rfl, hW.kind, hW.key, hW.val, hW.time, fun _ _ => by simp [PWork.home, BThread.home, h.core.f0], by simp [BThread.home], rfl, fun _ => hW.made (by omega), by simp [BThread.home], by simp [BThread.home], fun _ => hW.ans (by omega), by simp [BThread.home], hW.ml⟩
  · rw [hh] at ho
    have hans : w.ans = {} := hU.an (by omega)
    by_cases hq : decide ((R.sp w.c).key = w.okey) = decide (w.okind = 1)
    · have e3 : P.check i t.work = P.setT i { t with work := t.work.settle { stamp := P.clock } } := by
        unfold PSt.check; rw [ho, hmeet, hq, hW.kind]
        have : (decide (w.okind = 1) == (w.okind == 1)) = true := by by_cases h1 : w.okind = 1 <;> simp [h1]
        rw [this]; simp only [Bool.not_true, Bool.false_eq_true, if_false, if_true]; rw [pset_work ht]
      have e4 : R.turns i w = R.setTh i { w with ans := { w.ans with stamp := R.clock }, at_ := 12 } := by
        simp only [BSt.turns, ha, hh]; rw [if_pos trivial, if_pos hq]
      show Rel f (P.check i t.work) (R.turns i w)
      rw [e3, e4]
      refine h.both ht hw ?_ ?_
      · refine h.inv.setTh hw rfl ?_ ?_ ?_ (h.inv.lst i w hw) ?_
        · intro p _ hor; rw [ha] at hor; omega
        · intro _ h8; cases h8
        · intro hbf; exact absurd (hb.symm.trans hbf) (by simp)
        · intro _ hp
          have hm := hU.mono (R' := R.setTh i { w with ans := { w.ans with stamp := R.clock }, at_ := 12 }) (Nat.le_refl _) hp (fun _ _ => rfl) (fun a _ => by omega) (fun a => by omega)
          exact ⟨hm.kd, hm.key, by simp, hm.bx, hm.bc, hm.bs, hm.bw, hm.bn, hm.xs, hm.sd, hm.hw, hm.wl, hm.nl, by simp, by simp, fun _ _ => h6, by simp, fun _ _ => hm.xl (by omega) (by omega), fun _ _ => hm.cl (by omega) (by omega), by simp, by simp, by simp, by simp, by simp, by simp, by simp, by simp, hU.sp⟩
      · refine ⟨hT.busy, hT.has, hT.last, fun _ => ?_⟩
        exact ⟨rfl, hW.kind, hW.key, hW.val, hW.time, fun _ _ => hW.stand (by omega) (by omega), fun _ _ => hW.ahead (by omega) (by omega), hW.locks, by simp, by simp, by simp, fun _ => by simp [PWork.settle, hans, h.clock], by simp, hW.ml⟩
    · have e3 : P.check i t.work = P.setT i { t with work := { t.work with next := 7 } } := by
        unfold PSt.check; rw [ho, hmeet, hW.kind]
        have : (decide ((R.sp w.c).key = w.okey) == (w.okind == 1)) = false := by
          rw [beq_eq_false_iff_ne]; intro e; apply hq; rw [e]; by_cases h1 : w.okind = 1 <;> simp [h1]
        rw [this]; simp only [Bool.not_true, Bool.false_eq_true, if_false]; rw [pset_work ht, hW.kind]
      have e4 : R.turns i w = R.setTh i { w with at_ := 7 } := by
        simp only [BSt.turns, ha, hh]; rw [if_pos trivial, if_neg hq]
      show Rel f (P.check i t.work) (R.turns i w)
      rw [e3, e4]
      have hk7 : (R.sp w.c).key = w.okey ↔ w.okind = 2 := by
        have := hU.kd
        by_cases h1 : (R.sp w.c).key = w.okey <;> by_cases h2 : w.okind = 1 <;> simp [h1, h2] at hq ⊢ <;> omega
      refine h.both ht hw ?_ ?_
      · refine h.inv.setTh hw rfl ?_ ?_ ?_ (h.inv.lst i w hw) ?_
        · intro p _ hor; rw [ha] at hor; omega
        · intro _ h8; cases h8
        · intro hbf; exact absurd (hb.symm.trans hbf) (by simp)
        · intro _ hp
          have hm := hU.mono (R' := R.setTh i { w with at_ := 7 }) (Nat.le_refl _) hp (fun _ _ => rfl) (fun a _ => by omega) (fun a => by omega)
          exact ⟨hm.kd, hm.key, by simp, hm.bx, hm.bc, hm.bs, hm.bw, hm.bn, hm.xs, hm.sd, hm.hw, hm.wl, hm.nl, by simp, by simp, fun _ _ => h6, by simp, fun _ _ => hm.xl (by omega) (by omega), fun _ _ => hm.cl (by omega) (by omega), fun _ _ => hk7, fun _ => hm.n7 (by omega), by simp, by simp, by simp, by simp, fun _ => hm.an (by omega), by simp, hU.sp⟩
      · refine ⟨hT.busy, hT.has, hT.last, fun _ => ?_⟩
        exact ⟨rfl, hW.kind, hW.key, hW.val, hW.time, fun _ _ => hW.stand (by omega) (by omega), fun _ _ => hW.ahead (by omega) (by omega), hW.locks, fun _ => hW.made (by omega), by simp, by simp, fun _ => hW.ans (by omega), by simp, hW.ml⟩
end
end Go.Proofs.YtfccelbmacjifaaGreat

set_option linter.unusedSimpArgs false
namespace Go.Proofs.YtfccelbmacjifaaGreat
section
variable {f : Nat → Nat} {P : PSt} {R : BSt} {M : PMem}
/-- The locks are as they were. -/
theorem InvU.sameOwn (h : InvU R) {R' : BSt} {i : Nat} {w w' : BThread} (hw : R.ts[i]? = some w) (hts : R'.ts = R.ts.set i w') (hlock : w'.want.take w'.have_ = w.want.take w.have_)
    (hsp : ∀ (q : Nat) x', R'.spots[q]? = some x' → ∃ x, R.spots[q]? = some x ∧ x'.owner = x.owner) (hsp' : ∀ q, (R'.sp q).owner = (R.sp q).owner) :
    (∀ (p : Nat) x', R'.spots[p]? = some x' → x'.owner = -1 ∨ ∃ (j : Nat) (v : BThread), R'.ts[j]? = some v ∧ x'.owner = j ∧ p ∈ v.want.take v.have_) ∧
    (∀ (j : Nat) (v : BThread) (p : Nat), R'.ts[j]? = some v → p ∈ v.want.take v.have_ → (R'.sp p).owner = j) := by
  have hi := (List.getElem?_eq_some_iff.1 hw).1
  have hg : ∀ j, R'.ts[j]? = if i = j then some w' else R.ts[j]? := by
    intro j; rw [hts, List.getElem?_set]
    by_cases e : i = j
    · subst e; simp [hi]
    · simp [e]
  constructor
  · intro p x' hx'
    obtain ⟨x, hx, ho⟩ := hsp p x' hx'
    rcases h.own0 p x hx with h1 | ⟨j, v, hv, h1, h2⟩
    · exact .inl (ho.trans h1)
    · right
      by_cases hij : i = j
      · subst hij
        rw [hw] at hv; obtain rfl := Option.some.inj hv
        exact ⟨i, w', by rw [hg, if_pos rfl], ho.trans h1, by rw [hlock]; exact h2⟩
      · exact ⟨j, v, by rw [hg, if_neg hij]; exact hv, ho.trans h1, h2⟩
  · intro j v p hv hp
    rw [hsp']
    rw [hg] at hv
    split at hv
    · next e => subst e; obtain rfl := Option.some.inj hv; rw [hlock] at hp; exact h.own1 i w p hw hp
    · exact h.own1 j v p hv hp
theorem mapSp_owner (p : Nat) (g : BSpot → BSpot) (hg : ∀ x, (g x).owner = x.owner) (i : Nat) (w : BThread) :
    (∀ (q : Nat) x', ((R.mapSp p g).setTh i w).spots[q]? = some x' → ∃ x, R.spots[q]? = some x ∧ x'.owner = x.owner) ∧ ∀ q, (((R.mapSp p g).setTh i w).sp q).owner = (R.sp q).owner := by
  have h1 : ∀ (q : Nat) x', ((R.mapSp p g).setTh i w).spots[q]? = some x' → ∃ x, R.spots[q]? = some x ∧ x'.owner = x.owner := by
    intro q x' hx'
    have hx'' : (R.mapSp p g).spots[q]? = some x' := hx'
    rw [mapSp_get] at hx''
    cases hx : R.spots[q]? with
    | none => rw [hx] at hx''; simp at hx''
    | some x =>
      rw [hx] at hx''; simp at hx''; subst hx''
      refine ⟨x, rfl, ?_⟩
      split
      · exact hg x
      · rfl
  refine ⟨h1, ?_⟩
  intro q
  cases hx : R.spots[q]? with
  | none =>
    have : ((R.mapSp p g).setTh i w).spots[q]? = none := by show (R.mapSp p g).spots[q]? = none; rw [mapSp_get, hx]; rfl
    simp only [BSt.sp, this, hx]
  | some x =>
    have : ((R.mapSp p g).setTh i w).spots[q]? = some (if q = p then g x else x) := by show (R.mapSp p g).spots[q]? = _; rw [mapSp_get, hx]; rfl
    rw [sp_of this, sp_of hx]
    split
    · exact hg x
    · rfl

theorem sim9 (h : Rel f P R) {i : Nat} {t : PThread} {w : BThread} (ht : P.ts[i]? = some t) (hw : R.ts[i]? = some w) (hb : w.busy = true) (ha : w.at_ = 9) : (P.step i t).2 = (R.stepL i w).2 ∧ Rel f (P.step i t).1 (R.stepL i w).1 := by
  obtain ⟨hU, hW⟩ := h.one ht hw hb
  have hT := h.th i t w ht hw
  have hn : t.work.next = 9 := hW.next.trans ha
  have hkd : t.work.kind = 1 ∨ t.work.kind = 2 := by rw [hW.kind]; exact hU.kd
  have hk0 := h.inv.kind
  obtain ⟨c1, c2, c3, c4⟩ := hU.cl (by omega) (by omega)
  have hah := hW.ahead (by omega) (by omega)
  have e1 : P.step i t = ((P.setM (P.mem.modN (f w.c) fun x => { x with dead := true })).setT i { t with work := { t.work with next := 10 } }, 1) := by
    rw [step_update (by omega) (by omega) hkd]; simp only [PSt.update, hn]
    have : P.mem.kills (P.takenOut t.work) = P.mem.modN (f w.c) fun x => { x with dead := true } := by
      unfold PSt.takenOut; rw [if_neg (by rw [h.kind, hk0]; decide), hah]; rfl
    rw [this, pset_work (P := P.setM (P.mem.modN (f w.c) fun x => { x with dead := true })) ht]
  have e2 : R.stepL i w = ((R.mapSp w.c fun x => { x with dead := true }).setTh i { w with ans := { w.ans with value := (R.sp w.c).value }, at_ := 10 }, 1) := by
    simp only [BSt.stepL, ha, BSt.turns]; rw [if_neg (by rw [hk0]; decide)]
  rw [e1, e2]
  refine ⟨rfl, ?_⟩
  have hsoft : Soft R ((R.mapSp w.c fun x => { x with dead := true }).setTh i { w with ans := { w.ans with value := (R.sp w.c).value }, at_ := 10 }) :=
    mapSp_soft w.c (fun x => { x with dead := true }) (fun x => ⟨rfl, rfl, rfl, rfl, rfl, rfl, rfl⟩) R i _ (Soft.refl R)
  obtain ⟨m1, m2⟩ := mapSp_owner (R := R) w.c (fun x => { x with dead := true }) (fun _ => rfl) i { w with ans := { w.ans with value := (R.sp w.c).value }, at_ := 10 }
  obtain ⟨b1, b2⟩ := h.inv.sameOwn (w' := { w with ans := { w.ans with value := (R.sp w.c).value }, at_ := 10 }) hw rfl rfl m1 m2
  obtain ⟨n, hn1, hnn, hrel⟩ := h.core.node c1.1
  refine h.soft hsoft ht hw rfl ?_ ?_ (by unfold PMem.modN; rw [hasNode_of hn1]; rfl) ?_
  · refine h.inv.soft hsoft hw rfl b1 b2 ?_ ?_ ?_ (h.inv.lst i w hw) ?_
    · intro p _ hor
      refine ⟨hb, ?_⟩
      rw [ha] at hor
      simp only
      rcases hor with hor | hor
      · left; exact ⟨by omega, by omega, hor.2.2⟩
      · omega
    · intro _ h8; cases h8
    · intro hbf; exact absurd (hb.symm.trans hbf) (by simp)
    · intro _ hpm
      have hm := hU.mono (R' := (R.mapSp w.c fun x => { x with dead := true }).setTh i { w with ans := { w.ans with value := (R.sp w.c).value }, at_ := 10 }) (by rw [hsoft.len]; exact Nat.le_refl _) hpm (fun q _ => (hsoft.spOf q).1) (fun a b => by rw [(hsoft.spOf _).2.2.1]; exact (hU.s8 a b).2.1) (fun a => by omega)
      exact ⟨hm.kd, hm.key, by simp, hm.bx, hm.bc, hm.bs, hm.bw, hm.bn, hm.xs, hm.sd, hm.hw, hm.wl, hm.nl, by simp, by simp, fun _ _ => hm.h6 (by omega) (by omega), by simp, fun _ _ => hm.xl (by omega) (by omega), fun _ _ => hm.cl (by omega) (by omega), fun _ _ => hm.k7 (by omega) (by omega), by simp, fun _ _ => hm.s8 (by omega) (by omega), fun _ _ _ => hm.d8 (by omega) (by omega) (.inr (by omega)), by simp, by simp, by simp, fun _ _ => hm.did (by omega) (by omega), hm.sp⟩
  · exact (h.core.modNode c1.1 (fun x => { x with dead := true }) (fun x => { x with dead := true }) (fun _ => rfl) (fun _ => rfl) (fun _ => rfl) (fun _ => rfl) (fun _ => rfl) (fun m hm => ⟨hm.key, hm.value, rfl, hm.used, hm.holder, hm.links, hm.leads, hm.ret, hm.rat⟩)).congr rfl rfl rfl rfl
  · have hes : (P.mem.modN (f w.c) fun x => { x with dead := true }).es = P.mem.es := by unfold PMem.modN; rw [hasNode_of hn1]; rfl
    refine ⟨hT.busy, hT.has, hT.last, fun _ => ?_⟩
    exact ⟨rfl, hW.kind, hW.key, hW.val, hW.time, fun _ _ => hW.stand (by omega) (by omega), fun _ _ => hW.ahead (by omega) (by omega), hW.locks, by simp, fun _ _ => hW.turn (by omega) (by omega), fun _ _ => by rw [hes]; exact hW.pd (by omega) (by omega), fun _ => hW.ans9 ha, by simp, hW.ml⟩

theorem sim12 (h : Rel f P R) {i : Nat} {t : PThread} {w : BThread} (ht : P.ts[i]? = some t) (hw : R.ts[i]? = some w) (hb : w.busy = true) (ha : w.at_ = 12) : (P.step i t).2 = (R.stepL i w).2 ∧ Rel f (P.step i t).1 (R.stepL i w).1 := by
  obtain ⟨hU, hW⟩ := h.one ht hw hb
  have hT := h.th i t w ht hw
  have hn : t.work.next = 12 := hW.next.trans ha
  have hkd : t.work.kind = 1 ∨ t.work.kind = 2 := by rw [hW.kind]; exact hU.kd
  have hk0 := h.inv.kind
  obtain ⟨c1, c2, c3, c4⟩ := hU.cl (by omega) (by omega)
  have hah := hW.ahead (by omega) (by omega)
  have hans := hW.ans (by omega)
  have e1 : P.step i t = ((P.setM (if w.okind = 2 ∧ w.ans.did = true then (P.mem.unlock i).modN (f w.c) (fun x => { x with retired := true, retiredAt := P.clock }) else P.mem.unlock i)).setT i { t with work := { t.work with locks := 0, next := 13 } }, 1) := by
    rw [step_update (by omega) (by omega) hkd]; simp only [PSt.update, hn, PSt.unlock]
    have : P.takenOut t.work = [(f w.c : Int)] := by unfold PSt.takenOut; rw [if_neg (by rw [h.kind, hk0]; decide), hah]
    rw [this, hW.kind, hans]
    rw [pset_work (P := P.setM (if w.okind = 2 ∧ w.ans.did = true then (P.mem.unlock i).retires P.clock [(f w.c : Int)] else P.mem.unlock i)) ht]
    rfl
  have e2 : R.stepL i w = ((if w.okind = 2 ∧ w.ans.did = true then (R.unown (w.want.take w.have_)).mapSp w.c (fun x => { x with out := R.clock }) else R.unown (w.want.take w.have_)).setTh i { w with have_ := 0, at_ := 13 }, 1) := by
    have hkk : ¬ R.kind = 1 := by rw [hk0]; decide
    simp only [BSt.stepL, ha, BSt.turns, if_neg hkk]
  rw [e1, e2]
  refine ⟨rfl, ?_⟩
  have hC0 : Core f (P.mem.unlock i) (R.unown (w.want.take w.have_)) := h.core.unlock (fun p x hx _ => h.inv.mine hw hx)
  have hsoft0 : Soft R ((R.unown (w.want.take w.have_)).setTh i { w with have_ := 0, at_ := 13 }) := unown_soft _ i _
  have hun := unown_same R (w.want.take w.have_)
  -- the general end
  have fin : ∀ (R2 : BSt) (M2 : PMem), Soft R (R2.setTh i { w with have_ := 0, at_ := 13 }) → R2.ts = R.ts →
      (∀ (q : Nat) x', R2.spots[q]? = some x' → ∃ x, R.spots[q]? = some x ∧ x'.owner = if q ∈ w.want.take w.have_ then -1 else x.owner) → Core f M2 R2 → M2.es = P.mem.es →
      Rel f ((P.setM M2).setT i { t with work := { t.work with locks := 0, next := 13 } }) (R2.setTh i { w with have_ := 0, at_ := 13 }) := by
    intro R2 M2 hsoft hts2 hsp hC he
    have hts : (R2.setTh i { w with have_ := 0, at_ := 13 }).ts = R.ts.set i { w with have_ := 0, at_ := 13 } := by show R2.ts.set i _ = _; rw [hts2]
    obtain ⟨b1, b2⟩ := h.inv.back (R' := R2.setTh i { w with have_ := 0, at_ := 13 }) hw hts rfl hsoft.len hsp
    refine h.soft hsoft ht hw hts ?_ (hC.congr rfl rfl rfl rfl) he ?_
    · refine h.inv.soft hsoft hw hts b1 (fun j v p hv hp => b2 j v p hv hp ?_) ?_ ?_ ?_ (h.inv.lst i w hw) ?_
      · rw [hts, List.getElem?_set] at hv
        by_cases e : i = j
        · subst e
          have hil := (List.getElem?_eq_some_iff.1 hw).1
          simp [hil] at hv; subst hv
          simp at hp
        · simp [e] at hv
          cases hvb : v.busy
          · rw [h.inv.idle j v hv hvb] at hp; simp at hp
          · exact (h.inv.th j v hv hvb).bw p (List.mem_of_mem_take hp)
      · intro p _ hor; rw [ha] at hor; omega
      · intro _ h8; cases h8
      · intro hbf; exact absurd (hb.symm.trans hbf) (by simp)
      · intro _ hpm
        exact ⟨hU.kd, hU.key, by simp, by rw [hsoft.len]; exact hU.bx, by rw [hsoft.len]; exact hU.bc, by rw [hsoft.len]; exact hU.bs, by rw [hsoft.len]; exact hU.bw, by rw [hsoft.len]; exact hU.bn, hU.xs, hU.sd, by simp, hU.wl, hU.nl, by simp, by simp, by simp, by simp, by simp, by simp, by simp, by simp, by simp, by simp, by simp, by simp, by simp, by simp, hU.sp⟩
    · refine ⟨hT.busy, hT.has, hT.last, fun _ => ?_⟩
      exact ⟨rfl, hW.kind, hW.key, hW.val, hW.time, by simp, by simp, rfl, by simp, by simp, by simp, fun _ => hans, by simp, hW.ml⟩
  have hsp0 : ∀ (q : Nat) x', (R.unown (w.want.take w.have_)).spots[q]? = some x' → ∃ x, R.spots[q]? = some x ∧ x'.owner = if q ∈ w.want.take w.have_ then -1 else x.owner := by
    intro q x' hx'
    rw [unown_get] at hx'
    cases hx : R.spots[q]? with
    | none => rw [hx] at hx'; simp at hx'
    | some x =>
      rw [hx] at hx'; simp at hx'
      refine ⟨x, rfl, ?_⟩
      rw [← hx']; split <;> rfl
  by_cases hd : w.okind = 2 ∧ w.ans.did = true
  · rw [if_pos hd, if_pos hd]
    have hlive : (R.unown (w.want.take w.have_)).live w.c := by
      obtain ⟨x, hx, hxf⟩ := c1.1
      refine ⟨_, by rw [unown_get, hx]; rfl, ?_⟩
      simp only; split <;> exact hxf
    obtain ⟨n, hn1, hnn, hrel⟩ := hC0.node hlive
    refine fin _ _ ?_ hun.2.2.2.2.2.1 ?_ ?_ ?_
    · have hs := mapSp_soft (R := R) w.c (fun x => { x with out := R.clock }) (fun x => ⟨rfl, rfl, rfl, rfl, rfl, rfl, rfl⟩) (R.unown (w.want.take w.have_)) i { w with have_ := 0, at_ := 13 } ⟨hun.1, hun.2.2.2.2.2.2.2.2, hun.2.1, hun.2.2.1, hun.2.2.2.1, hun.2.2.2.2.1, unown_len R _, hsoft0.sp⟩
      exact hs
    · intro q x' hx'
      rw [mapSp_get] at hx'
      cases hx : (R.unown (w.want.take w.have_)).spots[q]? with
      | none => rw [hx] at hx'; simp at hx'
      | some x =>
        rw [hx] at hx'; simp at hx'
        obtain ⟨y, hy, ho⟩ := hsp0 q x hx
        refine ⟨y, hy, ?_⟩
        rw [← ho, ← hx']; split <;> rfl
    · have hc := hC0.modNode hlive (fun x => { x with out := R.clock }) (fun x => { x with retired := true, retiredAt := P.clock }) (fun _ => rfl) (fun _ => rfl) (fun _ => rfl) (fun _ => rfl) (fun _ => rfl) (fun m hm => ⟨hm.key, hm.value, hm.dead, hm.used, hm.holder, hm.links, hm.leads, by simp [h.inv.clk.1], fun _ => h.clock⟩)
      exact hc
    · unfold PMem.modN; rw [hasNode_of hn1]; rfl
  · rw [if_neg hd, if_neg hd]
    exact fin _ _ hsoft0 hun.2.2.2.2.2.1 hsp0 hC0 rfl
end
end Go.Proofs.YtfccelbmacjifaaGreat

set_option linter.unusedSimpArgs false
namespace Go.Proofs.YtfccelbmacjifaaGreat
section
variable {f : Nat → Nat} {P : PSt} {R : BSt} {M : PMem}
theorem set_get' {α : Type} {l : List α} {i : Nat} (hi : i < l.length) (y : α) (j : Nat) : (l.set i y)[j]? = if i = j then some y else l[j]? := by
  rw [List.getElem?_set]
  by_cases e : i = j
  · subst e; simp [hi]
  · simp [e]
theorem InvU.pubSet {R' : BSt} {i : Nat} {w w' : BThread} (hw : R.ts[i]? = some w) (hts : R'.ts = R.ts.set i w') (hl : ∀ p, Pub R p → R'.live p) (h8 : w'.busy = true → w'.at_ = 8 → w.busy = true ∧ w.at_ = 8 ∧ w'.new = w.new) : ∀ p, Pub R p → Pub R' p := by
  intro p hp
  refine ⟨hl p hp, ?_⟩
  intro j v hv hb ha
  rw [hts, set_get' (List.getElem?_eq_some_iff.1 hw).1] at hv
  split at hv
  · obtain rfl := Option.some.inj hv
    obtain ⟨q1, q2, q3⟩ := h8 hb ha
    rw [q3]; exact hp.2 i w hw q1 q2
  · exact hp.2 j v hv hb ha
theorem InvU.uniqSet (h : InvU R) {R' : BSt} {i : Nat} {w w' : BThread} (hw : R.ts[i]? = some w) (hts : R'.ts = R.ts.set i w') (h8 : w'.busy = true → w'.at_ = 8 → w.busy = true ∧ w.at_ = 8 ∧ w'.new = w.new) :
    ∀ (a c : Nat) (u v : BThread) (p : Nat), R'.ts[a]? = some u → R'.ts[c]? = some v → u.busy = true → v.busy = true → u.at_ = 8 → v.at_ = 8 → p ∈ u.new → p ∈ v.new → a = c := by
  intro a c u v p hu hv hbu hbv hau hav hpu hpv
  have hg := fun j => by have := set_get' (List.getElem?_eq_some_iff.1 hw).1 w' j; rw [← hts] at this; exact this
  have key : ∀ (d : Nat) (y : BThread), R'.ts[d]? = some y → y.busy = true → y.at_ = 8 → p ∈ y.new → ∃ y', R.ts[d]? = some y' ∧ y'.busy = true ∧ y'.at_ = 8 ∧ p ∈ y'.new := by
    intro d y hy hb ha hp
    rw [hg] at hy
    split at hy
    · next e =>
      subst e
      obtain rfl := Option.some.inj hy
      obtain ⟨q1, q2, q3⟩ := h8 hb ha
      exact ⟨w, hw, q1, q2, by rw [← q3]; exact hp⟩
    · exact ⟨y, hy, hb, ha, hp⟩
  obtain ⟨y1, a1, a2, a3, a4⟩ := key a u hu hbu hau hpu
  obtain ⟨y2, b1, b2, b3, b4⟩ := key c v hv hbv hav hpv
  exact h.uniq a c y1 y2 p a1 b1 a2 b2 a3 b3 a4 b4
theorem mapSp_sp (R : BSt) (p q : Nat) (g : BSpot → BSpot) (hz : q = p → R.live p) : (R.mapSp p g).sp q = if q = p then g (R.sp p) else R.sp q := by
  by_cases e : q = p
  · subst e
    rw [if_pos rfl]
    exact sp_of (by rw [mapSp_get, (hz rfl).sp.1]; simp)
  · rw [if_neg e]
    cases hx : R.spots[q]? with
    | none => simp only [BSt.sp, mapSp_get, hx]; rfl
    | some x => rw [sp_of hx]; exact sp_of (by rw [mapSp_get, hx]; simp [e])
/-- The rest of a relation: another thread's view where entries of its link stand. -/
theorem TRel.keep {es' : List PEntry} {R' : BSt} {t : PThread} {w : BThread} {f' : Nat → Nat} {es : List PEntry} (h : TRel f es R t w) (hU : w.busy = true → ThU R w) (hf : ∀ p, p < R.spots.length → f' p = f p) (hd : w.busy = true → 8 ≤ w.at_ → w.at_ ≤ 10 → w.dst < R.spots.length)
    (hv : ∀ p, p < R.spots.length → (R'.sp p).value = (R.sp p).value)
    (hpd : w.busy = true → 8 ≤ w.at_ → w.at_ ≤ 10 → pdOf es (f w.src) false = [(f w.dst : Int)] → pdOf es' (f w.src) false = [(f w.dst : Int)]) : TRel f' es' R' t w := by
  refine ⟨h.busy, h.has, h.last, fun hb => ?_⟩
  have q := h.work hb
  have u := hU hb
  refine ⟨q.next, q.kind, q.key, q.val, q.time, fun a b => by rw [hf _ u.bx]; exact q.stand a b, fun a b => by rw [hf _ u.bc]; exact q.ahead a b, q.locks, ?_, fun a b => by rw [hf _ u.bs]; exact q.turn a b, fun a b => by rw [hf _ u.bs, hf _ (hd hb a b)]; exact hpd hb a b (q.pd a b), q.ans, fun a => by rw [hv _ u.bc]; exact q.ans9 a, q.ml⟩
  intro a
  rw [q.made a]
  apply List.map_congr_left
  intro p hp
  rw [hf _ (u.bn p hp)]
theorem ThU.dlt {w : BThread} (h : ThU R w) (h8 : 8 ≤ w.at_) (h11 : w.at_ ≤ 11) : w.dst < R.spots.length := by
  by_cases e : w.okind = 2 ∨ 9 ≤ w.at_
  · exact (h.d8 h8 h11 e).1.lt
  · have h1 : w.at_ = 8 := by omega
    have h2 : w.okind = 1 := by have := h.kd; omega
    have := h.n8 h1
    rw [if_pos h2] at this
    exact this.2.1.lt
/-- Two threads that hold all their locks stand at two nodes. -/
theorem InvU.apart (h : InvU R) {i j : Nat} {w v : BThread} (hw : R.ts[i]? = some w) (hv : R.ts[j]? = some v) (hbw : w.busy = true) (hbv : v.busy = true) (h1 : 6 ≤ w.at_) (h2 : w.at_ ≤ 12) (h3 : 6 ≤ v.at_) (h4 : v.at_ ≤ 12) (he : w.x = v.x) : i = j := by
  have key : ∀ (k : Nat) (u : BThread), R.ts[k]? = some u → u.busy = true → 6 ≤ u.at_ → u.at_ ≤ 12 → (R.sp u.x).owner = k := by
    intro k u hu hb a b
    have hU := h.th k u hu hb
    obtain ⟨_, _, _, c4⟩ := hU.cl (by omega) b
    refine h.own1 k u u.x hu ?_
    rw [hU.h6 a b, List.take_length, c4]
    split <;> simp
  have a := key i w hw hbw h1 h2
  have b := key j v hv hbv h3 h4
  rw [he] at a
  omega

theorem sim10 (h : Rel f P R) {i : Nat} {t : PThread} {w : BThread} (ht : P.ts[i]? = some t) (hw : R.ts[i]? = some w) (hb : w.busy = true) (ha : w.at_ = 10) : (P.step i t).2 = (R.stepL i w).2 ∧ Rel f (P.step i t).1 (R.stepL i w).1 := by
  obtain ⟨hU, hW⟩ := h.one ht hw hb
  have hT := h.th i t w ht hw
  have hn : t.work.next = 10 := hW.next.trans ha
  have hkd : t.work.kind = 1 ∨ t.work.kind = 2 := by rw [hW.kind]; exact hU.kd
  have hk0 := h.inv.kind
  obtain ⟨x1, x2, x3⟩ := hU.xl (by omega) (by omega)
  obtain ⟨s1, s2, s3⟩ := hU.s8 (by omega) (by omega)
  have hd := hU.d8 (by omega) (by omega) (.inr (by omega))
  obtain ⟨t1, t2⟩ := hW.turn (by omega) (by omega)
  have hpd := hW.pd (by omega) (by omega)
  have hleaf : (R.sp w.x).leaf = false := by rw [h.inv.lf w.x _ x1.1.sp.1]; simpa using x2
  obtain ⟨_, hlk, _⟩ := h.core.list hk0 x1.1 hleaf 0
  obtain ⟨n, hn1, hnn, hrel⟩ := h.core.node x1.1
  have hlinks : n.links = 1 := by rw [hrel.links]; unfold linksOf; rw [hleaf]; simp [hk0]
  rw [s1] at hpd t1
  have e1 : P.step i t = ((P.setM (P.mem.modN (f w.x) fun x => { x with leads := upd x.leads false (f w.dst : Int) })).setT i { t with work := { t.work with next := 11 } }, 1) := by
    rw [step_update (by omega) (by omega) hkd]; simp only [PSt.update, hn]
    rw [t1, t2, lead_eq hpd hlk, pset_work (P := P.setM (P.mem.modN (f w.x) fun x => { x with leads := upd x.leads false (f w.dst : Int) })) ht]
  have e2 : R.stepL i w = ((R.mapSp w.x fun x => { x with now := upd x.now false w.dst }).setTh i { w with at_ := 11 }, 1) := by
    simp only [BSt.stepL, ha, BSt.turns, s1, hU.sd]
  rw [e1, e2]
  refine ⟨rfl, ?_⟩
  have hlive : ∀ p, ((R.mapSp w.x fun x => { x with now := upd x.now false w.dst }).setTh i { w with at_ := 11 }).live p ↔ R.live p := fun p => mapSp_live (R := R) (p := w.x) (g := fun x => { x with now := upd x.now false w.dst }) (fun _ => rfl) p
  have hts : ((R.mapSp w.x fun x => { x with now := upd x.now false w.dst }).setTh i { w with at_ := 11 }).ts = R.ts.set i { w with at_ := 11 } := rfl
  have hsp : ∀ q, ((R.mapSp w.x fun x => { x with now := upd x.now false w.dst }).setTh i { w with at_ := 11 }).sp q = if q = w.x then { R.sp w.x with now := upd (R.sp w.x).now false w.dst } else R.sp q := fun q => mapSp_sp R w.x q _ (fun _ => x1.1)
  have hlen : ((R.mapSp w.x fun x => { x with now := upd x.now false w.dst }).setTh i { w with at_ := 11 }).spots.length = R.spots.length := by simp [BSt.mapSp, BSt.setTh]
  obtain ⟨m1, m2⟩ := mapSp_owner (R := R) w.x (fun x => { x with now := upd x.now false w.dst }) (fun _ => rfl) i { w with at_ := 11 }
  obtain ⟨b1, b2⟩ := h.inv.sameOwn (w' := { w with at_ := 11 }) hw hts rfl m1 m2
  have h8 : ({ w with at_ := 11 } : BThread).busy = true → ({ w with at_ := 11 } : BThread).at_ = 8 → w.busy = true ∧ w.at_ = 8 ∧ ({ w with at_ := 11 } : BThread).new = w.new := by intro _ h8; cases h8
  have hpub : ∀ p, Pub R p → Pub ((R.mapSp w.x fun x => { x with now := upd x.now false w.dst }).setTh i { w with at_ := 11 }) p := InvU.pubSet hw hts (fun p hp => (hlive p).2 hp.1) h8
  have hkey : ∀ q, (((R.mapSp w.x fun x => { x with now := upd x.now false w.dst }).setTh i { w with at_ := 11 }).sp q).key = (R.sp q).key := by intro q; rw [hsp]; split; rename_i e; rw [e]; rfl
  have hopn : ∀ q, (((R.mapSp w.x fun x => { x with now := upd x.now false w.dst }).setTh i { w with at_ := 11 }).sp q).opn = (R.sp q).opn := by intro q; rw [hsp]; split; rename_i e; rw [e]; rfl
  have hstq : ∀ q, (((R.mapSp w.x fun x => { x with now := upd x.now false w.dst }).setTh i { w with at_ := 11 }).sp q).st = (R.sp q).st := by intro q; rw [hsp]; split; rename_i e; rw [e]; rfl
  have hval : ∀ q, (((R.mapSp w.x fun x => { x with now := upd x.now false w.dst }).setTh i { w with at_ := 11 }).sp q).value = (R.sp q).value := by intro q; rw [hsp]; split; rename_i e; rw [e]; rfl
  have hback : ∀ (q : Nat) x', ((R.mapSp w.x fun x => { x with now := upd x.now false w.dst }).setTh i { w with at_ := 11 }).spots[q]? = some x' → ∃ x, R.spots[q]? = some x ∧ x'.leaf = x.leaf ∧ x'.opn = x.opn ∧ x'.free = x.free := by
    intro q x' hx'
    have hx'' : (R.mapSp w.x fun x => { x with now := upd x.now false w.dst }).spots[q]? = some x' := hx'
    rw [mapSp_get] at hx''
    cases hx : R.spots[q]? with
    | none => rw [hx] at hx''; simp at hx''
    | some x => rw [hx] at hx''; simp at hx''; subst hx''; exact ⟨x, rfl, by split <;> rfl, by split <;> rfl, by split <;> rfl⟩
  have hil := (List.getElem?_eq_some_iff.1 hw).1
  have hg : ∀ j, ((R.mapSp w.x fun x => { x with now := upd x.now false w.dst }).setTh i { w with at_ := 11 }).ts[j]? = if i = j then some { w with at_ := 11 } else R.ts[j]? := fun j => by rw [hts]; exact set_get' hil _ j
  have hes : (P.mem.modN (f w.x) fun x => { x with leads := upd x.leads false (f w.dst : Int) }).es = P.mem.es := by unfold PMem.modN; rw [hasNode_of hn1]; rfl
  refine ⟨⟨hk0, by rw [hts, List.length_set]; exact h.inv.thl, by rw [hts, List.length_set]; exact h.inv.th8, h.inv.clk, h.inv.lim, hpub _ h.inv.s0, hpub _ h.inv.s1, by rw [hkey]; exact h.inv.k1, ?_, ?_, ?_, b1, b2, ?_, ?_, h.inv.uniqSet hw hts h8, ?_, ?_, ?_⟩, ?_, h.kind, h.limit, h.clock, by rw [hts, List.length_set]; simpa [PSt.setT, PSt.setM] using h.tlen, ?_⟩
  · intro q x' hx'; obtain ⟨x, hx, e, _⟩ := hback q x' hx'; rw [e]; exact h.inv.lf q x hx
  · intro q hq hq1
    rw [hsp]
    by_cases e : q = w.x
    · rw [if_pos e]; simp only [upd_same]; exact ⟨hpub _ hd, s3⟩
    · rw [if_neg e]; obtain ⟨a, b⟩ := h.inv.nxt q ((hlive q).1 hq) hq1; exact ⟨hpub _ a, b⟩
  · intro k hk
    rw [hlen] at hk ⊢
    rw [hsp]
    by_cases e : k = w.x
    · rw [if_pos e]; simp only [upd_same]; exact hd.1.lt
    · rw [if_neg e]; exact h.inv.nowb k hk
  · intro q x' s hx' hxf' ho
    obtain ⟨x, hx, _, e, ef⟩ := hback q x' hx'
    rw [e] at ho
    obtain ⟨o1, j, v, hv, hbv, hor⟩ := h.inv.opn q x s hx (by rw [← ef]; exact hxf') ho
    refine ⟨o1, ?_⟩
    by_cases hij : i = j
    · subst hij
      rw [hw] at hv; obtain rfl := Option.some.inj hv
      refine ⟨i, { w with at_ := 11 }, by rw [hg, if_pos rfl], hb, ?_⟩
      rcases hor with hor | hor
      · left; exact ⟨by simp, by simp, hor.2.2⟩
      · omega
    · exact ⟨j, v, by rw [hg, if_neg hij]; exact hv, hbv, hor⟩
  · intro j v q hv hbv hav hq
    rw [hopn, hstq]
    rw [hg] at hv
    split at hv
    · obtain rfl := Option.some.inj hv; cases hav
    · exact h.inv.nst j v q hv hbv hav hq
  · intro j v hv hbv
    rw [hg] at hv
    split at hv
    · obtain rfl := Option.some.inj hv; exact absurd (hb.symm.trans hbv) (by simp)
    · exact h.inv.idle j v hv hbv
  · intro j v hv
    rw [hg] at hv
    split at hv
    · obtain rfl := Option.some.inj hv; exact h.inv.lst i w hw
    · exact h.inv.lst j v hv
  · intro j v hv hbv
    rw [hg] at hv
    split at hv
    · obtain rfl := Option.some.inj hv
      have hm := hU.mono (R' := (R.mapSp w.x fun x => { x with now := upd x.now false w.dst }).setTh i { w with at_ := 11 }) (by rw [hlen]; exact Nat.le_refl _) hpub (fun q _ => hkey q) (fun a b => by rw [hopn]; exact (hU.s8 a b).2.1) (fun a => by omega)
      exact ⟨hm.kd, hm.key, by simp, hm.bx, hm.bc, hm.bs, hm.bw, hm.bn, hm.xs, hm.sd, hm.hw, hm.wl, hm.nl, by simp, by simp, fun _ _ => hm.h6 (by omega) (by omega), by simp, fun _ _ => hm.xl (by omega) (by omega), fun _ _ => hm.cl (by omega) (by omega), fun _ _ => hm.k7 (by omega) (by omega), by simp, fun _ _ => hm.s8 (by omega) (by omega), fun _ _ _ => hm.d8 (by omega) (by omega) (.inr (by omega)), by simp, by simp, by simp, fun _ _ => hm.did (by omega) (by omega), hm.sp⟩
    · exact (h.inv.th j v hv hbv).mono (by rw [hlen]; exact Nat.le_refl _) hpub (fun q _ => hkey q) (fun a b => by rw [hopn]; exact ((h.inv.th j v hv hbv).s8 a b).2.1) (fun _ q _ hl => (hlive q).2 hl)
  · refine Core.congr (R := R.mapSp w.x fun x => { x with now := upd x.now false w.dst }) ?_ rfl rfl rfl rfl
    refine h.core.modNode x1.1 (fun x => { x with now := upd x.now false w.dst }) (fun x => { x with leads := upd x.leads false (f w.dst : Int) }) (fun _ => rfl) (fun _ => rfl) (fun _ => rfl) (fun _ => rfl) (fun _ => rfl) (fun m hm => ⟨hm.key, hm.value, hm.dead, hm.used, hm.holder, hm.links, ?_, hm.ret, hm.rat⟩)
    intro s hs
    have hs0 : s = false := by
      have hl1 : m.links = 1 := by rw [hm.links]; unfold linksOf; rw [hleaf]; simp [hk0]
      cases s
      · rfl
      · simp only [hl1] at hs; exact absurd hs (by decide)
    subst hs0
    simp [upd_same]
  · intro j u v hu hv
    change ((P.setM (P.mem.modN (f w.x) fun x => { x with leads := upd x.leads false (f w.dst : Int) })).setT i { t with work := { t.work with next := 11 } }).ts[j]? = some u at hu
    rw [pset_get (P.setM (P.mem.modN (f w.x) fun x => { x with leads := upd x.leads false (f w.dst : Int) })) (List.getElem?_eq_some_iff.1 ht).1] at hu
    rw [hg] at hv
    show TRel f (P.mem.modN (f w.x) fun x => { x with leads := upd x.leads false (f w.dst : Int) }).es _ u v
    rw [hes]
    by_cases e : i = j
    · rw [if_pos e] at hu hv
      obtain rfl := Option.some.inj hu
      obtain rfl := Option.some.inj hv
      refine ⟨hT.busy, hT.has, hT.last, fun _ => ?_⟩
      exact ⟨rfl, hW.kind, hW.key, hW.val, hW.time, fun _ _ => hW.stand (by omega) (by omega), fun _ _ => hW.ahead (by omega) (by omega), hW.locks, by simp, fun _ _ => hW.turn (by omega) (by omega), by simp, fun _ => hW.ans (by omega), by simp, hW.ml⟩
    · rw [if_neg e] at hu hv
      exact (h.th j u v hu hv).keep (fun hb => h.inv.th j v hv hb) (fun _ _ => rfl) (fun hb a b => (h.inv.th j v hv hb).dlt a (by omega)) (fun q _ => hval q) (fun _ _ _ hq => hq)
end
end Go.Proofs.YtfccelbmacjifaaGreat

