import Derived.Test.YtfccelbmacjifaaGreatP22
set_option linter.unusedSimpArgs false
namespace Go.Proofs.YtfccelbmacjifaaGreat
section
variable {f : Nat → Nat} {P : PSt} {R : BSt} {M : PMem}
theorem mapSp_comm (R : BSt) {p q : Nat} (hne : p ≠ q) (g g' : BSpot → BSpot) : (R.mapSp p g).mapSp q g' = (R.mapSp q g').mapSp p g := by
  unfold BSt.mapSp
  have : (R.spots.modify p g).modify q g' = (R.spots.modify q g').modify p g := by
    apply List.ext_getElem?
    intro i
    simp only [modify_get]
    cases R.spots[i]? with
    | none => rfl
    | some x =>
      by_cases h1 : i = p
      · have h2 : i ≠ q := by omega
        simp [h1, show p ≠ q from hne]
      · simp [h1]
  simp [this]
/-- The clock stands at its limit: what was prepared goes back. -/
theorem Rel.undone (h : Rel f P R) {i : Nat} {t : PThread} {w : BThread} {M' : PMem} {R' : BSt} (ht : P.ts[i]? = some t) (hw : R.ts[i]? = some w) (hb : w.busy = true) (ha : w.at_ = 8)
    (e1 : R'.kind = R.kind) (e2 : R'.threads = R.threads) (e3 : R'.clock = R.clock) (e4 : R'.limit = R.limit) (hts : R'.ts = R.ts.set i { w with ans := { err := 8 }, at_ := 12 })
    (hget : ∀ q, R'.spots[q]? = (R.spots[q]?).map fun y => if q ∈ w.new then { y with free := true } else if q = w.x then { y with opn := upd y.opn false false } else y)
    (hC : Core f M' R') (hps : ∀ (m : Int) r d, m ≠ (f w.x : Int) → (∀ k ∈ w.new, m ≠ (f k : Int)) → pdOf P.mem.es m r = [d] → pdOf M'.es m r = [d]) :
    Rel f ((P.setM M').setT i { t with work := t.work.settle { err := 8 } }) R' := by
  obtain ⟨hU, hW⟩ := h.one ht hw hb
  have hT := h.th i t w ht hw
  obtain ⟨x1, x2, x3⟩ := hU.xl (by omega) (by omega)
  obtain ⟨k1, k2, k3, k4⟩ := hU.cl (by omega) (by omega)
  have hil := (List.getElem?_eq_some_iff.1 hw).1
  have hin := h.inv
  have hgt : ∀ j, R'.ts[j]? = if i = j then some { w with ans := { err := 8 }, at_ := 12 } else R.ts[j]? := fun j => by rw [hts]; exact set_get' hil _ j
  have hxn : w.x ∉ w.new := x1.2 i w hw hb ha
  have hlen : R'.spots.length = R.spots.length := by
    rcases Nat.lt_trichotomy R'.spots.length R.spots.length with h3 | h3 | h3
    · have := hget R'.spots.length
      rw [List.getElem?_eq_none (Nat.le_refl _), List.getElem?_eq_getElem h3] at this
      simp at this
    · exact h3
    · have := hget R.spots.length
      rw [List.getElem?_eq_none (Nat.le_refl _), List.getElem?_eq_getElem h3] at this
      simp at this
  have hback : ∀ (q : Nat) x', R'.spots[q]? = some x' → ∃ y, R.spots[q]? = some y ∧ x' = if q ∈ w.new then { y with free := true } else if q = w.x then { y with opn := upd y.opn false false } else y := by
    intro q x' hx'
    rw [hget] at hx'
    cases hx : R.spots[q]? with
    | none => rw [hx] at hx'; simp at hx'
    | some y => rw [hx] at hx'; simp at hx'; exact ⟨y, rfl, hx'.symm⟩
  have hlive : ∀ p, R'.live p ↔ R.live p ∧ p ∉ w.new := by
    intro p
    constructor
    · rintro ⟨x', hx', hf⟩
      obtain ⟨y, hy, e⟩ := hback p x' hx'
      by_cases hp : p ∈ w.new
      · rw [e, if_pos hp] at hf; cases hf
      · refine ⟨⟨y, hy, ?_⟩, hp⟩
        rw [e, if_neg hp] at hf
        split at hf <;> exact hf
    · rintro ⟨⟨y, hy, hf⟩, hp⟩
      refine ⟨_, by rw [hget, hy]; rfl, ?_⟩
      simp only [if_neg hp]
      split <;> exact hf
  have hsp : ∀ q, (R'.sp q).key = (R.sp q).key ∧ (R'.sp q).now = (R.sp q).now ∧ (R'.sp q).owner = (R.sp q).owner ∧ (R'.sp q).value = (R.sp q).value ∧ (R'.sp q).st = (R.sp q).st ∧ (q ≠ w.x → (R'.sp q).opn = (R.sp q).opn) := by
    intro q
    cases hx : R.spots[q]? with
    | none =>
      have : R'.spots[q]? = none := by rw [hget, hx]; rfl
      simp [BSt.sp, hx, this]
    | some y =>
      have : R'.spots[q]? = some (if q ∈ w.new then { y with free := true } else if q = w.x then { y with opn := upd y.opn false false } else y) := by rw [hget, hx]; rfl
      rw [sp_of this, sp_of hx]
      split
      · exact ⟨rfl, rfl, rfl, rfl, rfl, fun _ => rfl⟩
      · split
        · next e => exact ⟨rfl, rfl, rfl, rfl, rfl, fun h => absurd e h⟩
        · exact ⟨rfl, rfl, rfl, rfl, rfl, fun _ => rfl⟩
  have hpub : ∀ p, Pub R p → Pub R' p := InvU.pubSet hw hts (fun p hp => (hlive p).2 ⟨hp.1, hp.2 i w hw hb ha⟩) (by intro _ h8; cases h8)
  obtain ⟨b1, b2⟩ := hin.sameOwn (w' := { w with ans := { err := 8 }, at_ := 12 }) hw hts rfl (by
    intro q x' hx'
    obtain ⟨y, hy, e⟩ := hback q x' hx'
    refine ⟨y, hy, ?_⟩
    rw [e]; split; rfl; split <;> rfl) (fun q => (hsp q).2.2.1)
  refine ⟨⟨e1.trans hin.kind, by rw [hts, List.length_set, e2]; exact hin.thl, by rw [hts, List.length_set]; exact hin.th8, by rw [e3, e4]; exact hin.clk, by rw [e4]; exact hin.lim, hpub _ hin.s0, hpub _ hin.s1, by rw [(hsp 1).1]; exact hin.k1, ?_, ?_, ?_, b1, b2, ?_, ?_, hin.uniqSet hw hts (by intro _ h8; cases h8), ?_, ?_, ?_⟩, hC, h.kind.trans e1.symm, h.limit.trans e4.symm, h.clock.trans e3.symm, by rw [hts, List.length_set]; simpa [PSt.setT, PSt.setM] using h.tlen, ?_⟩
  · intro q x' hx'
    obtain ⟨y, hy, e⟩ := hback q x' hx'
    rw [← hin.lf q y hy, e]; split; rfl; split <;> rfl
  · intro q hq hq1; rw [(hsp q).2.1]; obtain ⟨a, b⟩ := hin.nxt q ((hlive q).1 hq).1 hq1; exact ⟨hpub _ a, b⟩
  · intro k hk; rw [hlen] at hk ⊢; rw [(hsp k).2.1]; exact hin.nowb k hk
  · intro q x' s hx' hxf' ho
    obtain ⟨y, hy, e⟩ := hback q x' hx'
    by_cases hq : q ∈ w.new
    · rw [e, if_pos hq] at hxf'; cases hxf'
    · rw [if_neg hq] at e
      by_cases eq : q = w.x
      · rw [if_pos eq] at e
        have hyf : y.free = false := by rw [e] at hxf'; exact hxf'
        rw [e] at ho
        simp only at ho
        cases s
        · rw [upd_same] at ho; cases ho
        · rw [upd_ne _ _ (by decide)] at ho
          exact absurd (hin.opn q y true hy hyf ho).1 (by decide)
      · rw [if_neg eq] at e
        subst e
        obtain ⟨o1, j, v, hv, hbv, hor⟩ := hin.opn q x' s hy hxf' ho
        refine ⟨o1, ?_⟩
        by_cases hij : i = j
        · subst hij
          rw [hw] at hv; obtain rfl := Option.some.inj hv
          rcases hor with hor | hor
          · rw [(hU.s8 (by omega) (by omega)).1] at hor; exact absurd hor.2.2.symm eq
          · exact absurd hor.2 hq
        · exact ⟨j, v, by rw [hgt, if_neg hij]; exact hv, hbv, hor⟩
  · intro j v q hv hbv hav hq
    rw [hgt] at hv
    split at hv
    · obtain rfl := Option.some.inj hv; cases hav
    · have hne : q ≠ w.x := by rintro rfl; exact x1.2 j v hv hbv hav hq
      rw [(hsp q).2.2.2.2.2 hne, (hsp q).2.2.2.2.1]; exact hin.nst j v q hv hbv hav hq
  · intro j v hv hbv
    rw [hgt] at hv
    split at hv
    · obtain rfl := Option.some.inj hv; exact absurd (hb.symm.trans hbv) (by simp)
    · exact hin.idle j v hv hbv
  · intro j v hv
    rw [hgt] at hv
    split at hv
    · obtain rfl := Option.some.inj hv; exact hin.lst i w hw
    · exact hin.lst j v hv
  · intro j v hv hbv
    rw [hgt] at hv
    split at hv
    · obtain rfl := Option.some.inj hv
      exact ⟨hU.kd, hU.key, by simp, by rw [hlen]; exact hU.bx, by rw [hlen]; exact hU.bc, by rw [hlen]; exact hU.bs, by rw [hlen]; exact hU.bw, by rw [hlen]; exact hU.bn, hU.xs, hU.sd, hU.hw, hU.wl, hU.nl, by simp, by simp, fun _ _ => hU.h6 (by omega) (by omega), by simp, fun _ _ => ⟨hpub _ x1, x2, by rw [(hsp w.x).1]; exact x3⟩, fun _ _ => ⟨hpub _ k1, k2, by rw [(hsp w.c).1]; exact k3, by rw [(hsp w.c).1]; exact k4⟩, by simp, by simp, by simp, by simp, by simp, by simp, by simp, by simp, rfl⟩
    · next hij =>
      have hV := hin.th j v hv hbv
      refine hV.mono (by rw [hlen]; exact Nat.le_refl _) hpub (fun q _ => (hsp q).1) (fun a b => ?_) (fun a q hq hl => (hlive q).2 ⟨hl, fun hm => hij (hin.uniq i j w v q hw hv hb hbv ha a hm hq)⟩)
      rw [(hsp v.x).2.2.2.2.2 (h.otherLink hw hv hb hbv (by omega) (by omega) a b hij).2.1]
      exact (hV.s8 a b).2.1
  · intro j u v hu hv
    rw [pset_get (P.setM M') (List.getElem?_eq_some_iff.1 ht).1] at hu
    rw [hgt] at hv
    show TRel f M'.es R' u v
    by_cases e : i = j
    · rw [if_pos e] at hu hv
      obtain rfl := Option.some.inj hu
      obtain rfl := Option.some.inj hv
      refine ⟨hT.busy, hT.has, hT.last, fun _ => ?_⟩
      exact ⟨rfl, hW.kind, hW.key, hW.val, hW.time, fun _ _ => hW.stand (by omega) (by omega), fun _ _ => hW.ahead (by omega) (by omega), hW.locks, by simp, by simp, by simp, fun _ => rfl, by simp, hW.ml⟩
    · rw [if_neg e] at hu hv
      refine (h.th j u v hu hv).keep (fun hb => hin.th j v hv hb) (fun _ _ => rfl) (fun hb a b => (hin.th j v hv hb).dlt a (by omega)) (fun q _ => (hsp q).2.2.2.1) (fun hbv a b hq => hps _ _ _ (h.otherLink hw hv hb hbv (by omega) (by omega) a (by omega) e).2.2 ?_ hq)
      intro k hk ek
      have hV := hin.th j v hv hbv
      have hs := (hV.s8 a (by omega)).1
      have hvx := (hV.xl (by omega) (by omega)).1
      have hn8 := hU.n8 ha
      have hkl : R.live k := by
        split at hn8
        · rw [hn8.1] at hk; simp at hk; rw [hk]; exact hn8.2.1
        · rw [hn8] at hk; simp at hk
      rw [hs] at ek
      have := h.core.inj v.x k hvx.1 hkl (by omega)
      rw [this] at hvx
      exact hvx.2 i w hw hb ha hk
end
end Go.Proofs.YtfccelbmacjifaaGreat

set_option linter.unusedSimpArgs false
namespace Go.Proofs.YtfccelbmacjifaaGreat
section
variable {f : Nat → Nat} {P : PSt} {R : BSt} {M : PMem}
theorem sim8full (h : Rel f P R) {i : Nat} {t : PThread} {w : BThread} (ht : P.ts[i]? = some t) (hw : R.ts[i]? = some w) (hb : w.busy = true) (ha : w.at_ = 8) (hfull : R.clock = R.limit) : (P.step i t).2 = (R.stepL i w).2 ∧ Rel f (P.step i t).1 (R.stepL i w).1 := by
  obtain ⟨hU, hW⟩ := h.one ht hw hb
  have hn : t.work.next = 8 := hW.next.trans ha
  have hkd : t.work.kind = 1 ∨ t.work.kind = 2 := by rw [hW.kind]; exact hU.kd
  have hk0 := h.inv.kind
  obtain ⟨x1, x2, x3⟩ := hU.xl (by omega) (by omega)
  obtain ⟨s1, s2, s3⟩ := hU.s8 (by omega) (by omega)
  obtain ⟨t1, t2⟩ := hW.turn (by omega) (by omega)
  rw [s1] at t1
  have hleaf : (R.sp w.x).leaf = false := by rw [h.inv.lf w.x _ x1.1.sp.1]; simpa using x2
  have hlk : b2i false < linksOf R.kind w.x (R.sp w.x) := by unfold linksOf; rw [hleaf]; simp [hk0]; decide
  have hlim : P.limit ≤ P.clock := by rw [h.limit, h.clock, hfull]; exact Int.le_refl _
  obtain ⟨hC, hPS, hns⟩ := h.core.unpend x1.1 false hlk s2
  have hxn : w.x ∉ w.new := x1.2 i w hw hb ha
  generalize hM' : (P.mem.unpend (f w.x) false).frees (w.new.map fun p => (f p : Int)) = M'
  have e1 : P.step i t = ((P.setM M').setT i { t with work := t.work.settle { err := 8 } }, 1) := by
    rw [step_update (by omega) (by omega) hkd]; simp only [PSt.update, hn]
    unfold PSt.take
    rw [if_pos hlim, t1, t2, hW.made (by omega), hM', pset_work (P := P.setM M') ht]
  have e2 : R.stepL i w = (((R.unmake w.new).mapSp w.x fun x => { x with opn := upd x.opn false false }).setTh i { w with ans := { err := 8 }, at_ := 12 }, 1) := by
    simp only [BSt.stepL, ha, BSt.turns]; unfold BSt.takes; rw [if_pos hfull, s1, hU.sd]
  rw [e1, e2]
  refine ⟨rfl, ?_⟩
  have hn8 := hU.n8 ha
  by_cases hk1 : w.okind = 1
  · rw [if_pos hk1] at hn8
    obtain ⟨n1, n2, n3⟩ := hn8
    have hne : w.x ≠ w.dst := by rw [n1] at hxn; simpa using hxn
    have hl2 : (R.mapSp w.x fun x => { x with opn := upd x.opn false false }).live w.dst := (mapSp_live (g := fun x => { x with opn := upd x.opn false false }) (fun _ => rfl) _).2 n2
    obtain ⟨hC2, hP2⟩ := hC.freeSpot hl2 n3
    have hMM : M' = (P.mem.unpend (f w.x) false).free (f w.dst) := by rw [← hM', n1]; simp [PMem.frees]
    rw [← hMM] at hC2 hP2
    have hRR : (R.unmake w.new).mapSp w.x (fun x => { x with opn := upd x.opn false false }) = (R.mapSp w.x fun x => { x with opn := upd x.opn false false }).mapSp w.dst fun x => { x with free := true } := by
      rw [n1]; simp only [BSt.unmake]; exact mapSp_comm R hne.symm _ _
    rw [hRR]
    refine h.undone ht hw hb ha rfl rfl rfl rfl rfl ?_ (hC2.congr rfl rfl rfl rfl) ?_
    · intro q
      show ((R.mapSp w.x _).mapSp w.dst _).spots[q]? = _
      rw [mapSp_get, mapSp_get, n1]
      cases R.spots[q]? with
      | none => rfl
      | some y =>
        by_cases q1 : q = w.dst
        · have q2 : q ≠ w.x := by rw [q1]; exact hne.symm
          simp [q1, hne.symm]
        · simp [q1]
    · intro m r d hm hk hd
      rw [hP2 m r (hk w.dst (by rw [n1]; simp))]
      exact hPS m r d (.inl hm) hd
  · rw [if_neg hk1] at hn8
    have hMM : M' = P.mem.unpend (f w.x) false := by rw [← hM', hn8]; simp [PMem.frees]
    have hRR : R.unmake w.new = R := by rw [hn8]; rfl
    rw [hRR]
    refine h.undone ht hw hb ha rfl rfl rfl rfl rfl ?_ (by rw [hMM]; exact hC.congr rfl rfl rfl rfl) ?_
    · intro q
      show (R.mapSp w.x _).spots[q]? = _
      rw [mapSp_get, hn8]
      simp
    · intro m r d hm hk hd
      rw [hMM]
      exact hPS m r d (.inl hm) hd

/-- The stamp is taken. -/
theorem Rel.taken (h : Rel f P R) {i : Nat} {t : PThread} {w w' : BThread} {k' : PWork} {M' : PMem} {R' : BSt} (ht : P.ts[i]? = some t) (hw : R.ts[i]? = some w) (hb : w.busy = true) (ha : w.at_ = 8) (hlt : R.clock < R.limit)
    (e1 : R'.kind = R.kind) (e2 : R'.threads = R.threads) (e3 : R'.clock = R.clock + 1) (e4 : R'.limit = R.limit) (hts : R'.ts = R.ts.set i w')
    (hget : ∀ q, R'.spots[q]? = (R.spots[q]?).map fun y => if q ∈ w.new then stampOf (R.clock + 1) y else y)
    (hC : Core f M' R') (hps : ∀ (m : Int) r d, (∀ k ∈ w.new, m ≠ (f k : Int)) → pdOf P.mem.es m r = [d] → pdOf M'.es m r = [d])
    (hw' : w' = { w with ans := { did := true, stamp := R.clock + 1 }, at_ := if w.okind = 1 then 10 else 9 })
    (hk' : k' = { t.work with ans := { did := true, stamp := R.clock + 1, value := if w.okind = 1 then 0 else (R.sp w.c).value }, next := if w.okind = 1 then 10 else 9 }) :
    Rel f (({ P with clock := P.clock + 1, mem := M' } : PSt).setT i { t with work := k' }) R' := by
  obtain ⟨hU, hW⟩ := h.one ht hw hb
  have hT := h.th i t w ht hw
  obtain ⟨x1, x2, x3⟩ := hU.xl (by omega) (by omega)
  obtain ⟨k1, k2, k3, k4⟩ := hU.cl (by omega) (by omega)
  have hil := (List.getElem?_eq_some_iff.1 hw).1
  have hin := h.inv
  have w1 : 9 ≤ w'.at_ ∧ w'.at_ ≤ 10 := by rw [hw']; simp only; split <;> omega
  have w2 : w'.busy = true := by rw [hw']; exact hb
  have w3 : w'.src = w.src := by rw [hw']
  have w4 : w'.want = w.want := by rw [hw']
  have w5 : w'.have_ = w.have_ := by rw [hw']
  have hgt : ∀ j, R'.ts[j]? = if i = j then some w' else R.ts[j]? := fun j => by rw [hts]; exact set_get' hil _ j
  have hxn : w.x ∉ w.new := x1.2 i w hw hb ha
  have hlen : R'.spots.length = R.spots.length := by
    rcases Nat.lt_trichotomy R'.spots.length R.spots.length with h3 | h3 | h3
    · have := hget R'.spots.length
      rw [List.getElem?_eq_none (Nat.le_refl _), List.getElem?_eq_getElem h3] at this
      simp at this
    · exact h3
    · have := hget R.spots.length
      rw [List.getElem?_eq_none (Nat.le_refl _), List.getElem?_eq_getElem h3] at this
      simp at this
  have hback : ∀ (q : Nat) x', R'.spots[q]? = some x' → ∃ y, R.spots[q]? = some y ∧ x' = if q ∈ w.new then stampOf (R.clock + 1) y else y := by
    intro q x' hx'
    rw [hget] at hx'
    cases hx : R.spots[q]? with
    | none => rw [hx] at hx'; simp at hx'
    | some y => rw [hx] at hx'; simp at hx'; exact ⟨y, rfl, hx'.symm⟩
  have hlive : ∀ p, R'.live p ↔ R.live p := by
    intro p
    constructor
    · rintro ⟨x', hx', hf⟩
      obtain ⟨y, hy, e⟩ := hback p x' hx'
      refine ⟨y, hy, ?_⟩
      rw [e] at hf
      split at hf <;> exact hf
    · rintro ⟨y, hy, hf⟩
      refine ⟨_, by rw [hget, hy]; rfl, ?_⟩
      split <;> exact hf
  have hsp : ∀ q, (R'.sp q).key = (R.sp q).key ∧ (R'.sp q).now = (R.sp q).now ∧ (R'.sp q).owner = (R.sp q).owner ∧ (R'.sp q).value = (R.sp q).value ∧ (q ∉ w.new → R'.sp q = R.sp q) := by
    intro q
    cases hx : R.spots[q]? with
    | none =>
      have : R'.spots[q]? = none := by rw [hget, hx]; rfl
      simp [BSt.sp, hx, this]
    | some y =>
      have : R'.spots[q]? = some (if q ∈ w.new then stampOf (R.clock + 1) y else y) := by rw [hget, hx]; rfl
      rw [sp_of this, sp_of hx]
      split
      · next e => exact ⟨rfl, rfl, rfl, rfl, fun h => absurd e h⟩
      · exact ⟨rfl, rfl, rfl, rfl, fun _ => rfl⟩
  have h8 : w'.busy = true → w'.at_ = 8 → w.busy = true ∧ w.at_ = 8 ∧ w'.new = w.new := by intro _ h8; omega
  have hpub : ∀ p, Pub R p → Pub R' p := InvU.pubSet hw hts (fun p hp => (hlive p).2 hp.1) h8
  have hpubn : ∀ p ∈ w.new, R.live p → Pub R' p := by
    intro p hp hl
    refine ⟨(hlive p).2 hl, ?_⟩
    intro j v hv hbv hav hm
    rw [hgt] at hv
    split at hv
    · obtain rfl := Option.some.inj hv; omega
    · next hij => exact hij (hin.uniq i j w v p hw hv hb hbv ha hav hp hm)
  obtain ⟨b1, b2⟩ := hin.sameOwn (w' := w') hw hts (by rw [w4, w5]) (by
    intro q x' hx'
    obtain ⟨y, hy, e⟩ := hback q x' hx'
    refine ⟨y, hy, ?_⟩
    rw [e]; split <;> rfl) (fun q => (hsp q).2.2.1)
  have hs8 := hU.s8 (by omega) (by omega)
  refine ⟨⟨e1.trans hin.kind, by rw [hts, List.length_set, e2]; exact hin.thl, by rw [hts, List.length_set]; exact hin.th8, by rw [e3, e4]; have := hin.clk; omega, by rw [e4]; exact hin.lim, hpub _ hin.s0, hpub _ hin.s1, by rw [(hsp 1).1]; exact hin.k1, ?_, ?_, ?_, b1, b2, ?_, ?_, hin.uniqSet hw hts h8, ?_, ?_, ?_⟩, hC, h.kind.trans e1.symm, h.limit.trans e4.symm, by rw [e3, ← h.clock]; rfl, by rw [hts, List.length_set]; simpa [PSt.setT, PSt.setM] using h.tlen, ?_⟩
  · intro q x' hx'
    obtain ⟨y, hy, e⟩ := hback q x' hx'
    rw [← hin.lf q y hy, e]; split <;> rfl
  · intro q hq hq1; rw [(hsp q).2.1]; obtain ⟨a, b⟩ := hin.nxt q ((hlive q).1 hq) hq1; exact ⟨hpub _ a, b⟩
  · intro k hk; rw [hlen] at hk ⊢; rw [(hsp k).2.1]; exact hin.nowb k hk
  · intro q x' s hx' hxf' ho
    obtain ⟨y, hy, e⟩ := hback q x' hx'
    by_cases hq : q ∈ w.new
    · rw [e, if_pos hq] at ho; cases ho
    · rw [if_neg hq] at e
      subst e
      obtain ⟨o1, j, v, hv, hbv, hor⟩ := hin.opn q x' s hy hxf' ho
      refine ⟨o1, ?_⟩
      by_cases hij : i = j
      · subst hij
        rw [hw] at hv; obtain rfl := Option.some.inj hv
        rcases hor with hor | hor
        · exact ⟨i, w', by rw [hgt, if_pos rfl], w2, .inl ⟨by omega, by omega, by rw [w3]; exact hor.2.2⟩⟩
        · exact absurd hor.2 hq
      · exact ⟨j, v, by rw [hgt, if_neg hij]; exact hv, hbv, hor⟩
  · intro j v q hv hbv hav hq
    rw [hgt] at hv
    split at hv
    · obtain rfl := Option.some.inj hv; omega
    · next hij =>
      rw [(hsp q).2.2.2.2 (fun hm => hij (hin.uniq i j w v q hw hv hb hbv ha hav hm hq))]
      exact hin.nst j v q hv hbv hav hq
  · intro j v hv hbv
    rw [hgt] at hv
    split at hv
    · obtain rfl := Option.some.inj hv; exact absurd (w2.symm.trans hbv) (by simp)
    · exact hin.idle j v hv hbv
  · intro j v hv
    rw [hgt] at hv
    split at hv
    · obtain rfl := Option.some.inj hv; rw [hw']; exact hin.lst i w hw
    · exact hin.lst j v hv
  · intro j v hv hbv
    rw [hgt] at hv
    split at hv
    · obtain rfl := Option.some.inj hv
      have hdst : Pub R' w.dst := by
        by_cases hk : w.okind = 1
        · have := hU.n8 ha
          rw [if_pos hk] at this
          exact hpubn _ (by rw [this.1]; simp) this.2.1
        · exact hpub _ (hU.d8 (by omega) (by omega) (.inl (by have := hU.kd; omega)))
      have hox : (R'.sp w.x).opn false = true := by rw [(hsp w.x).2.2.2.2 hxn]; exact hs8.2.1
      have hkc := (hsp w.c).1
      have hkx := (hsp w.x).1
      have g1 : 9 ≤ (if w.okind = 1 then 10 else 9) ∧ (if w.okind = 1 then 10 else 9) ≤ 10 := by split <;> omega
      rw [hw']
      refine ⟨hU.kd, hU.key, ?_, by rw [hlen]; exact hU.bx, by rw [hlen]; exact hU.bc, by rw [hlen]; exact hU.bs, by rw [hlen]; exact hU.bw, by rw [hlen]; exact hU.bn, hU.xs, hU.sd, hU.hw, hU.wl, hU.nl, ?_, ?_, fun _ _ => hU.h6 (by omega) (by omega), ?_, fun _ _ => ⟨hpub _ x1, x2, by simp only; rw [hkx]; exact x3⟩, fun _ _ => ⟨hpub _ k1, k2, by simp only; rw [hkc]; exact k3, by simp only; rw [hkc]; exact k4⟩, fun _ _ => by simp only; rw [hkc]; exact hU.k7 (by omega) (by omega), ?_, fun _ _ => ⟨hs8.1, hox, hs8.2.2⟩, fun _ _ _ => hdst, ?_, ?_, ?_, fun _ _ => rfl, rfl⟩
      all_goals simp only
      · omega
      · intro; omega
      · intro; omega
      · intro; omega
      · intro; omega
      · intro; omega
      · intro hh; have := hU.kd; split at hh <;> omega
      · intro; omega
    · next hij =>
      have hV := hin.th j v hv hbv
      refine hV.mono (by rw [hlen]; exact Nat.le_refl _) hpub (fun q _ => (hsp q).1) (fun a b => ?_) (fun a q hq hl => (hlive q).2 hl)
      have hvx := (hV.xl (by omega) (by omega)).1
      rw [(hsp v.x).2.2.2.2 (hvx.2 i w hw hb ha)]
      exact (hV.s8 a b).2.1
  · have hnl : ∀ k ∈ w.new, R.live k := by
      intro k hk
      have hn8 := hU.n8 ha
      split at hn8
      · rw [hn8.1] at hk; simp at hk; rw [hk]; exact hn8.2.1
      · rw [hn8] at hk; simp at hk
    have hoff : ∀ q, Pub R q → ∀ k ∈ w.new, (f q : Int) ≠ (f k : Int) := by
      intro q hq k hk ek
      have := h.core.inj q k hq.1 (hnl k hk) (by omega)
      rw [this] at hq
      exact hq.2 i w hw hb ha hk
    intro j u v hu hv
    have hu' : (({ P with clock := P.clock + 1, mem := M' } : PSt).setT i { t with work := k' }).ts[j]? = some u := hu
    rw [pset_get ({ P with clock := P.clock + 1, mem := M' } : PSt) (List.getElem?_eq_some_iff.1 ht).1] at hu'
    rw [hgt] at hv
    show TRel f M'.es R' u v
    by_cases e : i = j
    · rw [if_pos e] at hu' hv
      obtain rfl := Option.some.inj hu'
      obtain rfl := Option.some.inj hv
      have hpd := hW.pd (by omega) (by omega)
      have hpd' := hps _ _ _ (by rw [hs8.1]; exact hoff _ x1) hpd
      rw [hw', hk']
      refine ⟨hT.busy, hT.has, hT.last, fun _ => ?_⟩
      have hval := (hsp w.c).2.2.2.1
      refine ⟨rfl, hW.kind, hW.key, hW.val, hW.time, fun _ _ => hW.stand (by omega) (by omega), fun _ _ => hW.ahead (by omega) (by omega), hW.locks, ?_, fun _ _ => hW.turn (by omega) (by omega), fun _ _ => hpd', ?_, ?_, hW.ml⟩
      · simp only; intro hh; split at hh <;> omega
      · simp only; intro hh
        by_cases hk : w.okind = 1
        · simp [hk]
        · rw [if_neg hk] at hh; exact absurd rfl hh
      · simp only; intro hh
        by_cases hk : w.okind = 1
        · rw [if_pos hk] at hh; omega
        · simp [hk, hval]
    · rw [if_neg e] at hu' hv
      refine (h.th j u v hu' hv).keep (fun hb => hin.th j v hv hb) (fun _ _ => rfl) (fun hb a b => (hin.th j v hv hb).dlt a (by omega)) (fun q _ => (hsp q).2.2.2.1) (fun hbv a b hq => hps _ _ _ ?_ hq)
      have hV := hin.th j v hv hbv
      rw [(hV.s8 a (by omega)).1]
      exact hoff _ (hV.xl (by omega) (by omega)).1

theorem sim8ok (h : Rel f P R) {i : Nat} {t : PThread} {w : BThread} (ht : P.ts[i]? = some t) (hw : R.ts[i]? = some w) (hb : w.busy = true) (ha : w.at_ = 8) (hfull : ¬ R.clock = R.limit) : (P.step i t).2 = (R.stepL i w).2 ∧ Rel f (P.step i t).1 (R.stepL i w).1 := by
  obtain ⟨hU, hW⟩ := h.one ht hw hb
  have hn : t.work.next = 8 := hW.next.trans ha
  have hkd : t.work.kind = 1 ∨ t.work.kind = 2 := by rw [hW.kind]; exact hU.kd
  have hk0 := h.inv.kind
  have hlt : R.clock < R.limit := by have := h.inv.clk; omega
  have hlim : ¬ P.limit ≤ P.clock := by rw [h.limit, h.clock]; omega
  obtain ⟨k1, k2, k3, k4⟩ := hU.cl (by omega) (by omega)
  have hn8 := hU.n8 ha
  have han := hU.an (by omega)
  have hclk := h.clock
  by_cases hk1 : w.okind = 1
  · rw [if_pos hk1] at hn8
    obtain ⟨n1, n2, n3⟩ := hn8
    have hnst := h.inv.nst i w w.dst hw hb ha (by rw [n1]; simp)
    have hleaf : (R.sp w.dst).leaf = false := by rw [h.inv.lf w.dst _ n2.sp.1]; simp; omega
    have hoT : (R.sp w.dst).opn true = false := by
      cases hc : (R.sp w.dst).opn true
      · rfl
      · exact absurd (h.inv.opn w.dst _ true n2.sp.1 n2.sp.2 hc).1 (by decide)
    obtain ⟨hC, hPS, hns⟩ := h.core.stampNew n2 (by
      intro s hs
      cases s
      · unfold linksOf; rw [hleaf]; simp [hk0]; decide
      · rw [hoT] at hs; cases hs) (by
      intro s hs
      cases s
      · exact hnst.2
      · rw [hoT] at hs; cases hs) (R.clock + 1)
    have e1 : P.step i t = (({ P with clock := P.clock + 1, mem := P.mem.stampNew (f w.dst) (R.clock + 1) } : PSt).setT i { t with work := { t.work with ans := { did := true, stamp := R.clock + 1, value := if w.okind = 1 then 0 else (R.sp w.c).value }, next := if w.okind = 1 then 10 else 9 } }, 1) := by
      rw [step_update (by omega) (by omega) hkd]; simp only [PSt.update, hn]
      unfold PSt.take
      have hnk : ¬ t.work.kind = 2 := by rw [hW.kind]; omega
      simp only [if_neg hlim, if_neg hnk, if_pos hk1]
      rw [hW.made (by omega), n1]
      simp only [List.map_cons, List.map_nil, PMem.stampsNew, hclk]
      rw [pset_work (P := ({ P with clock := R.clock + 1 } : PSt).setM (P.mem.stampNew (f w.dst) (R.clock + 1))) ht]
      rfl
    have e2 : R.stepL i w = ((({ R with clock := R.clock + 1, log := R.log ++ [⟨R.clock + 1, w.okey, w.ovalue, decide (w.okind = 1)⟩] } : BSt).restamp (R.clock + 1) w.new).setTh i { w with ans := { did := true, stamp := R.clock + 1 }, at_ := if w.okind = 1 then 10 else 9 }, 1) := by
      simp only [BSt.stepL, ha, BSt.turns]; unfold BSt.takes; rw [if_neg hfull, han]
    rw [e1, e2]
    refine ⟨rfl, ?_⟩
    refine h.taken ht hw hb ha hlt ?_ ?_ ?_ ?_ ?_ ?_ ?_ ?_ rfl rfl
    · rw [n1]; rfl
    · rw [n1]; rfl
    · rw [n1]; rfl
    · rw [n1]; rfl
    · rw [n1]; rfl
    · intro q
      rw [n1]
      show (R.spots.modify w.dst (stampOf (R.clock + 1)))[q]? = _
      rw [modify_get]; simp
    · rw [n1]; exact hC.congr rfl rfl rfl rfl
    · intro m r d hm hd
      exact hPS m r d (hm w.dst (by rw [n1]; simp)) hd
  · rw [if_neg hk1] at hn8
    have e1 : P.step i t = (({ P with clock := P.clock + 1, mem := P.mem } : PSt).setT i { t with work := { t.work with ans := { did := true, stamp := R.clock + 1, value := if w.okind = 1 then 0 else (R.sp w.c).value }, next := if w.okind = 1 then 10 else 9 } }, 1) := by
      rw [step_update (by omega) (by omega) hkd]; simp only [PSt.update, hn]
      unfold PSt.take
      have hnk : t.work.kind = 2 := by rw [hW.kind]; have := hU.kd; omega
      simp only [if_neg hlim, if_pos hnk, if_neg hk1]
      rw [hW.ahead (by omega) (by omega), (h.keyOf k1.1).2.2.1]
      simp only [hclk]
      rw [pset_work (P := ({ P with clock := R.clock + 1 } : PSt)) ht]
    have e2 : R.stepL i w = (({ R with clock := R.clock + 1, log := R.log ++ [⟨R.clock + 1, w.okey, w.ovalue, decide (w.okind = 1)⟩] } : BSt).setTh i { w with ans := { did := true, stamp := R.clock + 1 }, at_ := if w.okind = 1 then 10 else 9 }, 1) := by
      simp only [BSt.stepL, ha, BSt.turns]; unfold BSt.takes; rw [if_neg hfull, han, hn8]; rfl
    rw [e1, e2]
    refine ⟨rfl, ?_⟩
    refine h.taken ht hw hb ha hlt rfl rfl rfl rfl rfl ?_ (h.core.congr rfl rfl rfl rfl) (fun m r d _ hd => hd) rfl rfl
    intro q
    rw [hn8]
    show R.spots[q]? = _
    simp
theorem sim8 (h : Rel f P R) {i : Nat} {t : PThread} {w : BThread} (ht : P.ts[i]? = some t) (hw : R.ts[i]? = some w) (hb : w.busy = true) (ha : w.at_ = 8) : (P.step i t).2 = (R.stepL i w).2 ∧ Rel f (P.step i t).1 (R.stepL i w).1 := by
  by_cases hf : R.clock = R.limit
  · exact sim8full h ht hw hb ha hf
  · exact sim8ok h ht hw hb ha hf
/-- A step of an update: the same answer, and the two stay in relation. -/
theorem simU (h : Rel f P R) {i : Nat} {t : PThread} {w : BThread} (ht : P.ts[i]? = some t) (hw : R.ts[i]? = some w) (hb : w.busy = true) : (P.step i t).2 = (R.stepL i w).2 ∧ ∃ f', Rel f' (P.step i t).1 (R.stepL i w).1 := by
  have hU := h.inv.th i w hw hb
  have key : ((P.step i t).2 = (R.stepL i w).2 ∧ Rel f (P.step i t).1 (R.stepL i w).1) → ((P.step i t).2 = (R.stepL i w).2 ∧ ∃ f', Rel f' (P.step i t).1 (R.stepL i w).1) := fun ⟨a, b⟩ => ⟨a, f, b⟩
  have := hU.at1
  rcases (show w.at_ = 1 ∨ w.at_ = 2 ∨ w.at_ = 3 ∨ w.at_ = 4 ∨ w.at_ = 5 ∨ w.at_ = 6 ∨ w.at_ = 7 ∨ w.at_ = 8 ∨ w.at_ = 9 ∨ w.at_ = 10 ∨ w.at_ = 11 ∨ w.at_ = 12 ∨ w.at_ = 13 by omega) with ha | ha | ha | ha | ha | ha | ha | ha | ha | ha | ha | ha | ha
  · exact key (sim1 h ht hw hb ha)
  · exact key (sim2 h ht hw hb ha)
  · exact key (sim3 h ht hw hb ha)
  · exact key (sim4 h ht hw hb ha)
  · exact key (sim5 h ht hw hb ha)
  · exact key (sim6 h ht hw hb ha)
  · by_cases hf : R.room.1 < (R.needs w).1 ∨ R.room.2 < (R.needs w).2
    · exact key (sim7full h ht hw hb ha hf)
    · rcases hU.kd with hk | hk
      · exact sim7ins h ht hw hb ha hf hk
      · exact key (sim7rem h ht hw hb ha hf hk)
  · exact key (sim8 h ht hw hb ha)
  · exact key (sim9 h ht hw hb ha)
  · exact key (sim10 h ht hw hb ha)
  · exact key (sim11 h ht hw hb ha)
  · exact key (sim12 h ht hw hb ha)
  · exact key (sim13 h ht hw hb ha)
end
end Go.Proofs.YtfccelbmacjifaaGreat

set_option linter.unusedSimpArgs false
namespace Go.Proofs.YtfccelbmacjifaaGreat
section
variable {f : Nat → Nat} {P : PSt} {R : BSt} {M : PMem}
theorem Rel.get (h : Rel f P R) {i : Nat} (hi : i < R.ts.length) : ∃ t w, P.ts[i]? = some t ∧ R.ts[i]? = some w ∧ P.th i = t ∧ R.th i = w := by
  have hp := List.getElem?_eq_getElem (show i < P.ts.length by rw [h.tlen]; exact hi)
  have hr := List.getElem?_eq_getElem hi
  exact ⟨_, _, hp, hr, by simp [PSt.th, hp], by simp [BSt.th, hr]⟩
/-- An update begins. -/
theorem Rel.begin (h : Rel f P R) (i kind key value : Int) (sp sp' : List (Int × Int)) (hkd : kind = 1 ∨ kind = 2) :
    (P.begin i kind key value sp).2 = (R.begin i kind key value sp').2 ∧ Rel f (P.begin i kind key value sp).1 (R.begin i kind key value sp').1 := by
  have hthr : (P.ts.length : Int) = R.threads := by rw [h.tlen, h.inv.thl]
  have c1 : checkOp kind key sp = if isIn key 0 (2 ^ 40) then 0 else 5 := by unfold checkOp; rw [if_pos (by omega)]
  have c2 : mayOp kind key sp' = if isIn key 0 (2 ^ 40) then 0 else 5 := by unfold mayOp; rw [isIn_true (by omega), if_pos rfl, if_pos (by omega)]
  unfold PSt.begin BSt.begin
  rw [hthr, c1, c2]
  cases hI : isIn i 0 (R.threads - 1)
  · exact ⟨rfl, h⟩
  · have hb := isIn_iff.1 hI
    obtain ⟨j, rfl⟩ := Int.eq_ofNat_of_zero_le hb.1
    have hj : j < R.ts.length := by have := h.inv.thl; omega
    obtain ⟨t, w, ht, hw, e1, e2⟩ := h.get hj
    have hT := h.th j t w ht hw
    simp only [Int.toNat_natCast, e1, e2]
    rw [hT.busy]
    cases hwb : w.busy
    · cases hk : isIn key 0 (2 ^ 40)
      · simp only [Bool.false_eq_true, if_false, if_true]
        exact ⟨by simp, by simpa using h⟩
      · have hkey := isIn_iff.1 hk
        simp only [Bool.false_eq_true, if_false, if_true]
        have hl0 := h.inv.s0.1.lt
        have hid := h.inv.idle j w hw hwb
        refine ⟨trivial, h.both ht hw ?_ ?_⟩
        · refine h.inv.setTh hw (by rw [hid]; simp [BThread.begun, BThread.zero]) ?_ ?_ ?_ (h.inv.lst j w hw) ?_
          · intro p hbw; rw [hwb] at hbw; cases hbw
          · intro _ h8; cases h8
          · intro hf; cases hf
          · intro _ hp
            refine ⟨hkd, by simpa [BThread.begun] using hkey, by simp [BThread.begun], hl0, hl0, hl0, by simp [BThread.begun, BThread.zero], by simp [BThread.begun, BThread.zero], rfl, rfl, by simp [BThread.begun, BThread.zero], by simp [BThread.begun, BThread.zero], by simp [BThread.begun, BThread.zero], fun _ => rfl, by simp [BThread.begun, BThread.zero], by simp [BThread.begun, BThread.zero], by simp [BThread.begun, BThread.zero], by simp [BThread.begun, BThread.zero], by simp [BThread.begun, BThread.zero], by simp [BThread.begun, BThread.zero], fun _ => rfl, by simp [BThread.begun, BThread.zero], by simp [BThread.begun, BThread.zero], by simp [BThread.begun, BThread.zero], by simp [BThread.begun, BThread.zero], fun _ => rfl, by simp [BThread.begun, BThread.zero], rfl⟩
        · refine ⟨rfl, hT.has, hT.last, fun _ => ?_⟩
          rcases hkd with rfl | rfl
          · exact ⟨rfl, rfl, rfl, fun _ => rfl, rfl, by simp [BThread.begun], by simp [BThread.begun], rfl, fun _ => rfl, by simp [BThread.begun], by simp [BThread.begun], fun _ => rfl, by simp [BThread.begun], by simp [newWork, PWork.zero]⟩
          · exact ⟨rfl, rfl, rfl, by simp [BThread.begun], rfl, by simp [BThread.begun], by simp [BThread.begun], rfl, fun _ => rfl, by simp [BThread.begun], by simp [BThread.begun], fun _ => rfl, by simp [BThread.begun], by simp [newWork, PWork.zero]⟩
    · exact ⟨rfl, h⟩

/-! ### Sizes -/
structure Big (N : Nat) (R : BSt) : Prop where
  sp : R.spots.length ≤ 2 + 2 * N
  log : R.log.length ≤ N
  st : ∀ (k : Nat) x s, R.spots[k]? = some x → (x.st s).length ≤ 1 + N
  nd : R.nodes ≤ 64
  en : R.entries ≤ 256
theorem Big.mono {N N' : Nat} (h : Big N R) (hN : N ≤ N') : Big N' R := ⟨by have := h.sp; omega, by have := h.log; omega, fun k x s hx => by have := h.st k x s hx; omega, h.nd, h.en⟩
theorem Big.setTh {N : Nat} (h : Big N R) (i : Nat) (w : BThread) : Big N (R.setTh i w) := ⟨h.sp, h.log, h.st, h.nd, h.en⟩
theorem Big.mapSp {N N' : Nat} (h : Big N R) (p : Nat) (g : BSpot → BSpot) (hN : N ≤ N') (hg : ∀ x s, (x.st s).length ≤ 1 + N → ((g x).st s).length ≤ 1 + N') : Big N' (R.mapSp p g) := by
  refine ⟨?_, Nat.le_trans h.log hN, ?_, h.nd, h.en⟩
  · have := h.sp
    show (R.spots.modify p g).length ≤ _
    rw [List.length_modify]; omega
  · intro k x s hx
    rw [mapSp_get] at hx
    cases hy : R.spots[k]? with
    | none => rw [hy] at hx; simp at hx
    | some y =>
      rw [hy] at hx; simp at hx; subst hx
      have := h.st k y s hy
      split
      · exact hg y s this
      · omega
theorem Big.same {N : Nat} (h : Big N R) (p : Nat) (g : BSpot → BSpot) (hg : ∀ x, (g x).st = x.st) : Big N (R.mapSp p g) := h.mapSp p g (Nat.le_refl _) (fun x s hx => by rw [hg]; exact hx)
theorem Big.unown {N : Nat} : ∀ (l : List Nat) {R : BSt}, Big N R → Big N (R.unown l)
  | [], _, h => h
  | k :: r, _, h => Big.unown r (h.same k _ (by intro _; rfl))
theorem Big.unmake {N : Nat} : ∀ (l : List Nat) {R : BSt}, Big N R → Big N (R.unmake l)
  | [], _, h => h
  | k :: r, _, h => Big.unmake r (h.same k _ (by intro _; rfl))
theorem Big.restamp {N : Nat} (c : Int) : ∀ (l : List Nat) {R : BSt}, Big N R → Big N (R.restamp c l)
  | [], _, h => h
  | k :: r, _, h => Big.restamp c r (h.mapSp k _ (Nat.le_refl _) (fun x s hx => by
      unfold stampOf
      simp only
      split
      · simp
      · exact hx))
theorem Big.push {N : Nat} (h : Big N R) (y : BSpot) (hy : ∀ s, y.st s = []) : (R.push y).spots.length = R.spots.length + 1 ∧ (R.push y).log = R.log ∧ ∀ (k : Nat) x s, (R.push y).spots[k]? = some x → (x.st s).length ≤ 1 + N := by
  refine ⟨by simp [BSt.push], rfl, ?_⟩
  intro k x s hx
  rw [push_get] at hx
  split at hx
  · exact h.st k x s hx
  · split at hx
    · obtain rfl := Option.some.inj hx; rw [hy]; simp
    · cases hx
theorem Big.prepares {N : Nat} (h : Big N R) (i : Nat) (w : BThread) : Big (N + 1) (R.prepares i w) := by
  have h1 : Big (N + 1) R := h.mono (by omega)
  unfold BSt.prepares
  simp only
  split
  · exact h1.setTh _ _
  · split
    · refine Big.same ?_ _ _ (by intro _; rfl)
      split
      · unfold BSt.grownT
        simp only
        refine Big.setTh ?_ _ _
        have a := h.push (leafOf w.okey w.ovalue) (by intro _; rfl)
        have hb : Big (N + 1) (R.push (leafOf w.okey w.ovalue)) := ⟨by have := h.sp; omega, by rw [a.2.1]; have := h.log; omega, fun k x s hx => by have := a.2.2 k x s hx; omega, h.nd, h.en⟩
        have b := hb.push (if w.okey > (R.sp w.c).key then innerOf w.okey w.c R.spots.length else innerOf (R.sp w.c).key R.spots.length w.c) (fun s => by split <;> rfl)
        exact ⟨by have := h.sp; omega, by rw [b.2.1]; exact hb.log, b.2.2, h.nd, h.en⟩
      · unfold BSt.grownL
        simp only
        refine Big.setTh ?_ _ _
        have a := h.push (nodeOf w.okey w.ovalue w.c) (by intro _; rfl)
        exact ⟨by have := h.sp; omega, by rw [a.2.1]; have := h.log; omega, fun k x s hx => by have := a.2.2 k x s hx; omega, h.nd, h.en⟩
    · split
      · exact (h1.setTh _ _).same _ _ (by intro _; rfl)
      · exact (h1.setTh _ _).same _ _ (by intro _; rfl)
theorem Big.takes {N : Nat} (h : Big N R) (i : Nat) (w : BThread) : Big (N + 1) (R.takes i w) := by
  have h1 : Big (N + 1) R := h.mono (by omega)
  unfold BSt.takes
  split
  · exact ((h1.unmake _).same _ _ (by intro _; rfl)).setTh _ _
  · refine (Big.restamp _ _ ?_).setTh _ _
    exact ⟨h1.sp, by show (R.log ++ [_]).length ≤ _; have := h.log; simp; omega, h1.st, h.nd, h.en⟩
theorem Big.stepL {N : Nat} (h : Big N R) (i : Nat) (w : BThread) : Big (N + 1) (R.stepL i w).1 := by
  have h1 : Big (N + 1) R := h.mono (by omega)
  unfold BSt.stepL
  split
  · exact h1.setTh _ _
  · exact h1.setTh _ _
  · exact h1.setTh _ _
  · split
    · unfold BSt.seesL; split
      · exact h1
      · exact h1.setTh _ _
    · exact h1.setTh _ _
  · unfold BSt.locks
    simp only
    split
    · exact h1
    · exact (h1.same _ _ (by intro _; rfl)).setTh _ _
  · exact h1.setTh _ _
  · unfold BSt.turns
    split
    · split
      · exact h1.setTh _ _
      · exact ((h1.unown _).setTh _ _).setTh _ _
    · exact h.prepares i w
    · exact h.takes i w
    · refine Big.setTh ?_ _ _
      split
      · exact (h1.same _ _ (by intro _; rfl)).same _ _ (by intro _; rfl)
      · exact h1.same _ _ (by intro _; rfl)
    · exact (h1.same _ _ (by intro _; rfl)).setTh _ _
    · refine (h.mapSp _ _ (Nat.le_succ _) ?_).setTh _ _
      intro x s hx
      simp only [upd]
      split
      · next e => rw [List.length_append, ← e]; simp; omega
      · omega
    · refine Big.setTh ?_ _ _
      split
      · split
        · exact ((h1.unown _).same _ _ (by intro _; rfl)).same _ _ (by intro _; rfl)
        · exact (h1.unown _).same _ _ (by intro _; rfl)
      · exact h1.unown _
    · exact h1
theorem Big.begin {N : Nat} (h : Big N R) (i kind key value : Int) (sp : List (Int × Int)) : Big N (R.begin i kind key value sp).1 := by
  unfold BSt.begin
  split
  · split
    · exact h
    · split
      · exact h.setTh _ _
      · exact h
  · exact h

/-- The pools, counted spot by spot. -/
theorem roomTo_fst (l : List BSpot) (n e : Int) : ∀ k, n - k ≤ (roomTo l n e k).1 ∧ (roomTo l n e k).1 ≤ n
  | 0 => by simp [roomTo]
  | k + 1 => by
    have := roomTo_fst l n e k
    simp only [roomTo]
    split
    · unfold roomStep
      split
      · omega
      · simp only; split <;> omega
    · omega
theorem sum_take_le (f : BSpot → Nat) : ∀ (l : List BSpot) (k : Nat), ((l.take k).map f).sum ≤ (l.map f).sum
  | [], k => by simp
  | x :: r, 0 => by simp
  | x :: r, k + 1 => by have := sum_take_le f r k; simp only [List.take_succ_cons, List.map_cons, List.sum_cons]; omega
theorem Core.sum_le (h : Core f M R) : ((R.spots.map fun x => if liveSp x then wtSp x else 0).sum : Nat) ≤ R.entries := by
  have h1 := h.room
  have h2 := roomTo_two R.spots R.nodes R.entries R.spots.length (Nat.le_refl _)
  have h3 : R.room.2 = (roomTo R.spots R.nodes R.entries R.spots.length).2 := rfl
  rw [List.take_length] at h2
  have h4 : 0 ≤ M.room.2 := by unfold PMem.room; simp
  rw [h1, h3, h2] at h4
  omega
theorem Core.roomBd (h : Core f M R) (k : Nat) (hk : k ≤ R.spots.length) : R.nodes - k ≤ (roomTo R.spots R.nodes R.entries k).1 ∧ (roomTo R.spots R.nodes R.entries k).1 ≤ R.nodes ∧ 0 ≤ (roomTo R.spots R.nodes R.entries k).2 ∧ (roomTo R.spots R.nodes R.entries k).2 ≤ R.entries := by
  obtain ⟨a, b⟩ := roomTo_fst R.spots R.nodes R.entries k
  have h2 := roomTo_two R.spots R.nodes R.entries k hk
  have h3 := h.sum_le
  have h4 := sum_take_le (fun x => if liveSp x then wtSp x else 0) R.spots k
  refine ⟨a, b, ?_, ?_⟩
  · rw [h2]; omega
  · rw [h2]; omega
end
end Go.Proofs.YtfccelbmacjifaaGreat

