import Derived.Test.YtfccelbmacjifaaGreatP21
set_option linter.unusedSimpArgs false
namespace Go.Proofs.YtfccelbmacjifaaGreat
section
variable {f : Nat → Nat} {P : PSt} {R : BSt} {M : PMem}
/-- Other links' pending entries, by the nodes. -/
theorem Rel.otherLink (h : Rel f P R) {i j : Nat} {w v : BThread} (hw : R.ts[i]? = some w) (hv : R.ts[j]? = some v) (hbw : w.busy = true) (hbv : v.busy = true) (h1 : 6 ≤ w.at_) (h2 : w.at_ ≤ 12) (h3 : 8 ≤ v.at_) (h4 : v.at_ ≤ 11) (hij : i ≠ j) : v.src ≠ w.x ∧ v.x ≠ w.x ∧ (f v.src : Int) ≠ (f w.x : Int) := by
  have hV := h.inv.th j v hv hbv
  have hUw := h.inv.th i w hw hbw
  have hs := (hV.s8 h3 h4).1
  have hx : v.x ≠ w.x := fun e => hij (h.inv.apart hw hv hbw hbv h1 h2 (by omega) (by omega) e.symm)
  refine ⟨by rw [hs]; exact hx, hx, ?_⟩
  rw [hs]
  intro e
  exact hx (h.core.inj _ _ (hV.xl (by omega) (by omega)).1.1 (hUw.xl (by omega) (by omega)).1.1 (by omega))

theorem sim11 (h : Rel f P R) {i : Nat} {t : PThread} {w : BThread} (ht : P.ts[i]? = some t) (hw : R.ts[i]? = some w) (hb : w.busy = true) (ha : w.at_ = 11) : (P.step i t).2 = (R.stepL i w).2 ∧ Rel f (P.step i t).1 (R.stepL i w).1 := by
  obtain ⟨hU, hW⟩ := h.one ht hw hb
  have hT := h.th i t w ht hw
  have hn : t.work.next = 11 := hW.next.trans ha
  have hkd : t.work.kind = 1 ∨ t.work.kind = 2 := by rw [hW.kind]; exact hU.kd
  have hk0 := h.inv.kind
  obtain ⟨x1, x2, x3⟩ := hU.xl (by omega) (by omega)
  obtain ⟨s1, s2, s3⟩ := hU.s8 (by omega) (by omega)
  obtain ⟨t1, t2⟩ := hW.turn (by omega) (by omega)
  have hans := hW.ans (by omega)
  have hleaf : (R.sp w.x).leaf = false := by rw [h.inv.lf w.x _ x1.1.sp.1]; simpa using x2
  have hlk : b2i false < linksOf R.kind w.x (R.sp w.x) := by unfold linksOf; rw [hleaf]; simp [hk0]; decide
  rw [s1] at t1
  obtain ⟨hC, hPS, hns, _⟩ := h.core.stamp x1.1 false hlk s2 w.ans.stamp
  generalize hM' : P.mem.stamp (f w.x) false w.ans.stamp = M' at hC hPS hns
  have e1 : P.step i t = ((P.setM M').setT i { t with work := { t.work with next := 12 } }, 1) := by
    rw [step_update (by omega) (by omega) hkd]; simp only [PSt.update, hn]
    rw [t1, t2, hans, hM', pset_work (P := P.setM M') ht]
  have e2 : R.stepL i w = ((R.mapSp w.x fun x => { x with opn := upd x.opn false false, st := upd x.st false (x.st false ++ [w.ans.stamp]) }).setTh i { w with at_ := 12 }, 1) := by
    simp only [BSt.stepL, ha, BSt.turns, s1, hU.sd]
  rw [e1, e2]
  refine ⟨rfl, ?_⟩
  show Rel f ((P.setM M').setT i { t with work := { t.work with next := 12 } }) ((R.mapSp w.x fun x => { x with opn := upd x.opn false false, st := upd x.st false (x.st false ++ [w.ans.stamp]) }).setTh i { w with at_ := 12 })
  generalize hg' : (fun x : BSpot => { x with opn := upd x.opn false false, st := upd x.st false (x.st false ++ [w.ans.stamp]) }) = g at hC
  have g1 : ∀ x, (g x).free = x.free ∧ (g x).key = x.key ∧ (g x).leaf = x.leaf ∧ (g x).now = x.now ∧ (g x).owner = x.owner ∧ (g x).value = x.value ∧ (g x).opn = upd x.opn false false := by intro x; rw [← hg']; exact ⟨rfl, rfl, rfl, rfl, rfl, rfl, rfl⟩
  have hlive : ∀ p, ((R.mapSp w.x g).setTh i { w with at_ := 12 }).live p ↔ R.live p := fun p => mapSp_live (R := R) (p := w.x) (g := g) (fun x => (g1 x).1) p
  have hts : ((R.mapSp w.x g).setTh i { w with at_ := 12 }).ts = R.ts.set i { w with at_ := 12 } := rfl
  have hsp : ∀ q, ((R.mapSp w.x g).setTh i { w with at_ := 12 }).sp q = if q = w.x then g (R.sp w.x) else R.sp q := fun q => mapSp_sp R w.x q _ (fun _ => x1.1)
  have hlen : ((R.mapSp w.x g).setTh i { w with at_ := 12 }).spots.length = R.spots.length := by simp [BSt.mapSp, BSt.setTh]
  obtain ⟨m1, m2⟩ := mapSp_owner (R := R) w.x g (fun x => (g1 x).2.2.2.2.1) i { w with at_ := 12 }
  obtain ⟨b1, b2⟩ := h.inv.sameOwn (w' := { w with at_ := 12 }) hw hts rfl m1 m2
  have h8 : ({ w with at_ := 12 } : BThread).busy = true → ({ w with at_ := 12 } : BThread).at_ = 8 → w.busy = true ∧ w.at_ = 8 ∧ ({ w with at_ := 12 } : BThread).new = w.new := by intro _ h8; cases h8
  have hpub : ∀ p, Pub R p → Pub ((R.mapSp w.x g).setTh i { w with at_ := 12 }) p := InvU.pubSet hw hts (fun p hp => (hlive p).2 hp.1) h8
  have hkey : ∀ q, (((R.mapSp w.x g).setTh i { w with at_ := 12 }).sp q).key = (R.sp q).key := by intro q; rw [hsp]; split; (rename_i e; rw [e, (g1 _).2.1]); rfl
  have hnow : ∀ q, (((R.mapSp w.x g).setTh i { w with at_ := 12 }).sp q).now = (R.sp q).now := by intro q; rw [hsp]; split; (rename_i e; rw [e, (g1 _).2.2.2.1]); rfl
  have hval : ∀ q, (((R.mapSp w.x g).setTh i { w with at_ := 12 }).sp q).value = (R.sp q).value := by intro q; rw [hsp]; split; (rename_i e; rw [e, (g1 _).2.2.2.2.2.1]); rfl
  have hil := (List.getElem?_eq_some_iff.1 hw).1
  have hgt : ∀ j, ((R.mapSp w.x g).setTh i { w with at_ := 12 }).ts[j]? = if i = j then some { w with at_ := 12 } else R.ts[j]? := fun j => by rw [hts]; exact set_get' hil _ j
  refine ⟨⟨hk0, by rw [hts, List.length_set]; exact h.inv.thl, by rw [hts, List.length_set]; exact h.inv.th8, h.inv.clk, h.inv.lim, hpub _ h.inv.s0, hpub _ h.inv.s1, by rw [hkey]; exact h.inv.k1, ?_, ?_, ?_, b1, b2, ?_, ?_, h.inv.uniqSet hw hts h8, ?_, ?_, ?_⟩, hC.congr rfl rfl rfl rfl, h.kind, h.limit, h.clock, by rw [hts, List.length_set]; simpa [PSt.setT, PSt.setM] using h.tlen, ?_⟩
  · intro q x' hx'
    have hx'' : (R.mapSp w.x g).spots[q]? = some x' := hx'
    rw [mapSp_get] at hx''
    cases hx : R.spots[q]? with
    | none => rw [hx] at hx''; simp at hx''
    | some x =>
      rw [hx] at hx''; simp at hx''
      rw [← h.inv.lf q x hx, ← hx'']
      split
      · exact (g1 x).2.2.1
      · rfl
  · intro q hq hq1; rw [hnow]; obtain ⟨a, b⟩ := h.inv.nxt q ((hlive q).1 hq) hq1; exact ⟨hpub _ a, b⟩
  · intro k hk; rw [hlen] at hk ⊢; rw [hnow]; exact h.inv.nowb k hk
  · intro q x' s hx' hxf' ho
    have hx'' : (R.mapSp w.x g).spots[q]? = some x' := hx'
    rw [mapSp_get] at hx''
    cases hx : R.spots[q]? with
    | none => rw [hx] at hx''; simp at hx''
    | some x =>
      rw [hx] at hx''; simp at hx''
      have hxf : x.free = false := by
        rw [← hxf', ← hx'']
        split
        · exact (g1 x).1.symm
        · rfl
      by_cases e : q = w.x
      · rw [if_pos e] at hx''
        rw [← hx'', (g1 x).2.2.2.2.2.2] at ho
        cases s
        · rw [upd_same] at ho; cases ho
        · rw [upd_ne _ _ (by decide)] at ho
          have := (h.inv.opn q x true hx hxf ho).1
          cases this
      · rw [if_neg e] at hx''
        rw [← hx''] at ho
        obtain ⟨o1, j, v, hv, hbv, hor⟩ := h.inv.opn q x s hx hxf ho
        refine ⟨o1, ?_⟩
        by_cases hij : i = j
        · subst hij
          rw [hw] at hv; obtain rfl := Option.some.inj hv
          rcases hor with hor | hor
          · rw [s1] at hor; exact absurd hor.2.2.symm e
          · omega
        · exact ⟨j, v, by rw [hgt, if_neg hij]; exact hv, hbv, hor⟩
  · intro j v q hv hbv hav hq
    rw [hgt] at hv
    split at hv
    · obtain rfl := Option.some.inj hv; cases hav
    · have hne : q ≠ w.x := by rintro rfl; exact x1.2 j v hv hbv hav hq
      rw [hsp, if_neg hne]; exact h.inv.nst j v q hv hbv hav hq
  · intro j v hv hbv
    rw [hgt] at hv
    split at hv
    · obtain rfl := Option.some.inj hv; exact absurd (hb.symm.trans hbv) (by simp)
    · exact h.inv.idle j v hv hbv
  · intro j v hv
    rw [hgt] at hv
    split at hv
    · obtain rfl := Option.some.inj hv; exact h.inv.lst i w hw
    · exact h.inv.lst j v hv
  · intro j v hv hbv
    rw [hgt] at hv
    split at hv
    · obtain rfl := Option.some.inj hv
      have hx' := hU.xl (by omega) (by omega)
      have hc' := hU.cl (by omega) (by omega)
      exact ⟨hU.kd, hU.key, by simp, by rw [hlen]; exact hU.bx, by rw [hlen]; exact hU.bc, by rw [hlen]; exact hU.bs, by rw [hlen]; exact hU.bw, by rw [hlen]; exact hU.bn, hU.xs, hU.sd, hU.hw, hU.wl, hU.nl, by simp, by simp, fun _ _ => hU.h6 (by omega) (by omega), by simp, fun _ _ => ⟨hpub _ hx'.1, hx'.2.1, by rw [hkey]; exact hx'.2.2⟩, fun _ _ => ⟨hpub _ hc'.1, hc'.2.1, by rw [hkey]; exact hc'.2.2.1, by rw [hkey]; exact hc'.2.2.2⟩, by simp, by simp, by simp, by simp, by simp, by simp, by simp, by simp, hU.sp⟩
    · next hij =>
      refine (h.inv.th j v hv hbv).mono (by rw [hlen]; exact Nat.le_refl _) hpub (fun q _ => hkey q) (fun a b => ?_) (fun _ q _ hl => (hlive q).2 hl)
      rw [hsp, if_neg (h.otherLink hw hv hb hbv (by omega) (by omega) a b hij).2.1]
      exact ((h.inv.th j v hv hbv).s8 a b).2.1
  · intro j u v hu hv
    rw [pset_get (P.setM M') (List.getElem?_eq_some_iff.1 ht).1] at hu
    rw [hgt] at hv
    show TRel f M'.es _ u v
    by_cases e : i = j
    · rw [if_pos e] at hu hv
      obtain rfl := Option.some.inj hu
      obtain rfl := Option.some.inj hv
      refine ⟨hT.busy, hT.has, hT.last, fun _ => ?_⟩
      exact ⟨rfl, hW.kind, hW.key, hW.val, hW.time, fun _ _ => hW.stand (by omega) (by omega), fun _ _ => hW.ahead (by omega) (by omega), hW.locks, by simp, by simp, by simp, fun _ => hans, by simp, hW.ml⟩
    · rw [if_neg e] at hu hv
      exact (h.th j u v hu hv).keep (fun hb => h.inv.th j v hv hb) (fun _ _ => rfl) (fun hb a b => (h.inv.th j v hv hb).dlt a (by omega)) (fun q _ => hval q) (fun hbv a b hq => hPS _ _ _ (.inl (h.otherLink hw hv hb hbv (by omega) (by omega) a (by omega) e).2.2) hq)
end
end Go.Proofs.YtfccelbmacjifaaGreat

set_option linter.unusedSimpArgs false
namespace Go.Proofs.YtfccelbmacjifaaGreat
section
variable {f : Nat → Nat} {P : PSt} {R : BSt} {M : PMem}
/-- At the check's end no entry is pending at the link. -/
theorem InvU.shut (h : InvU R) {i : Nat} {w : BThread} (hw : R.ts[i]? = some w) (hb : w.busy = true) (ha : w.at_ = 7) : (R.sp w.x).opn false = false := by
  have hU := h.th i w hw hb
  have hx := (hU.xl (by omega) (by omega)).1
  cases ho : (R.sp w.x).opn false
  · rfl
  · obtain ⟨_, j, v, hv, hbv, hor⟩ := h.opn w.x _ false hx.1.sp.1 hx.1.sp.2 ho
    rcases hor with ⟨a, b, c⟩ | ⟨a, b⟩
    · have hs := ((h.th j v hv hbv).s8 a b).1
      have : i = j := h.apart hw hv hb hbv (by omega) (by omega) (by omega) (by omega) (by rw [← c, hs])
      subst this
      rw [hw] at hv; obtain rfl := Option.some.inj hv
      omega
    · exact absurd b (hx.2 j v hv hbv a)
theorem Rel.need (h : Rel f P R) {i : Nat} {t : PThread} {w : BThread} (ht : P.ts[i]? = some t) (hw : R.ts[i]? = some w) (hb : w.busy = true) : P.needs t.work.kind = R.needs w ∧ R.needs w = if w.okind = 1 then (1, 2) else (0, 1) := by
  obtain ⟨hU, hW⟩ := h.one ht hw hb
  have hk : ¬ R.kind = 1 := by rw [h.inv.kind]; decide
  have e : R.needs w = if w.okind = 1 then (1, 2) else (0, 1) := by unfold BSt.needs; rw [if_neg hk]
  refine ⟨?_, e⟩
  rw [e]
  unfold PSt.needs
  have hk' : ¬ P.kind = 1 := by rw [h.kind]; exact hk
  rw [hW.kind]
  rcases hU.kd with h1 | h1 <;> simp [h1, hk']

theorem sim7full (h : Rel f P R) {i : Nat} {t : PThread} {w : BThread} (ht : P.ts[i]? = some t) (hw : R.ts[i]? = some w) (hb : w.busy = true) (ha : w.at_ = 7) (hfull : R.room.1 < (R.needs w).1 ∨ R.room.2 < (R.needs w).2) : (P.step i t).2 = (R.stepL i w).2 ∧ Rel f (P.step i t).1 (R.stepL i w).1 := by
  obtain ⟨hU, hW⟩ := h.one ht hw hb
  have hT := h.th i t w ht hw
  have hn : t.work.next = 7 := hW.next.trans ha
  have hkd : t.work.kind = 1 ∨ t.work.kind = 2 := by rw [hW.kind]; exact hU.kd
  have hr := h.core.room
  have e1 : P.step i t = (P.setT i { t with work := t.work.settle { err := 7 } }, 1) := by
    rw [step_update (by omega) (by omega) hkd]; simp only [PSt.update, hn]
    unfold PSt.prepare
    rw [hr, (h.need ht hw hb).1, if_pos hfull, pset_work ht]
  have e2 : R.stepL i w = (R.setTh i { w with ans := { err := 7 }, at_ := 12 }, 1) := by
    simp only [BSt.stepL, ha, BSt.turns]; unfold BSt.prepares; rw [if_pos hfull]
  rw [e1, e2]
  refine ⟨rfl, h.both ht hw ?_ ?_⟩
  · refine h.inv.setTh hw rfl ?_ ?_ ?_ (h.inv.lst i w hw) ?_
    · intro p _ hor; rw [ha] at hor; omega
    · intro _ h8; cases h8
    · intro hbf; exact absurd (hb.symm.trans hbf) (by simp)
    · intro _ hp
      have hm := hU.mono (R' := R.setTh i { w with ans := { err := 7 }, at_ := 12 }) (Nat.le_refl _) hp (fun _ _ => rfl) (fun a _ => by omega) (fun a => by omega)
      exact ⟨hm.kd, hm.key, by simp, hm.bx, hm.bc, hm.bs, hm.bw, hm.bn, hm.xs, hm.sd, hm.hw, hm.wl, hm.nl, by simp, by simp, fun _ _ => hm.h6 (by omega) (by omega), by simp, fun _ _ => hm.xl (by omega) (by omega), fun _ _ => hm.cl (by omega) (by omega), by simp, by simp, by simp, by simp, by simp, by simp, by simp, by simp, rfl⟩
  · refine ⟨hT.busy, hT.has, hT.last, fun _ => ?_⟩
    exact ⟨rfl, hW.kind, hW.key, hW.val, hW.time, fun _ _ => hW.stand (by omega) (by omega), fun _ _ => hW.ahead (by omega) (by omega), hW.locks, by simp, by simp, by simp, fun _ => rfl, by simp, hW.ml⟩

/-- What both preparations end in: the link at x is open now; behind it there may be a spot more. -/
theorem Rel.opened (h : Rel f P R) {i : Nat} {t : PThread} {w w' : BThread} {f' : Nat → Nat} {M' : PMem} {k' : PWork} {R1 : BSt} (ht : P.ts[i]? = some t) (hw : R.ts[i]? = some w) (hb : w.busy = true) (ha : w.at_ = 7)
    (hw' : w' = { w with at_ := 8, src := w.x, side := false, dst := w'.dst, new := w'.new })
    (c1 : R1.kind = R.kind) (c2 : R1.threads = R.threads) (c3 : R1.clock = R.clock) (c4 : R1.limit = R.limit) (c5 : R1.ts = R.ts) (hlen : R.spots.length ≤ R1.spots.length)
    (hold : ∀ (p : Nat) x, R.spots[p]? = some x → R1.spots[p]? = some x)
    (hnew : ∀ (p : Nat) x, R1.spots[p]? = some x → R.spots.length ≤ p → p = w'.dst ∧ p ∈ w'.new ∧ 2 ≤ p ∧ x.leaf = false ∧ x.free = false ∧ x.now false = w.c ∧ x.owner = -1 ∧ x.opn false = true ∧ x.opn true = false ∧ x.st false = [])
    (hn1 : ∀ p ∈ w'.new, R.spots.length ≤ p ∧ p < R1.spots.length) (hnl : w'.new.length ≤ 1)
    (hdst : w'.dst < R1.spots.length ∧ w'.dst ≠ 0) (hd2 : w.okind = 2 → Pub R w'.dst ∧ w'.new = []) (hd1 : w.okind = 1 → w'.new = [w'.dst] ∧ R1.live w'.dst ∧ 2 ≤ w'.dst)
    (hf : ∀ p, p < R.spots.length → f' p = f p) (hC : Core f' M' ((R1.mapSp w.x fun x => { x with opn := upd x.opn false true }).setTh i w'))
    (hpd : pdOf M'.es (f' w.x) false = [(f' w'.dst : Int)]) (hps : ∀ (m : Int) r d, m ≠ (f w.x : Int) → pdOf P.mem.es m r = [d] → pdOf M'.es m r = [d])
    (hk : k' = { t.work with next := 8, made := w'.new.map (fun p => (f' p : Int)), tsrc := (f w.x : Int), tside := false }) :
    Rel f' ((P.setM M').setT i { t with work := k' }) ((R1.mapSp w.x fun x => { x with opn := upd x.opn false true }).setTh i w') := by
  obtain ⟨hU, hW⟩ := h.one ht hw hb
  have hT := h.th i t w ht hw
  obtain ⟨x1, x2, x3⟩ := hU.xl (by omega) (by omega)
  obtain ⟨k1, k2, k3, k4⟩ := hU.cl (by omega) (by omega)
  have hil := (List.getElem?_eq_some_iff.1 hw).1
  have w1 : w'.at_ = 8 := by rw [hw']
  have w2 : w'.busy = true := by rw [hw']; exact hb
  have w3 : w'.src = w.x := by rw [hw']
  have w4 : w'.want = w.want := by rw [hw']
  have w5 : w'.have_ = w.have_ := by rw [hw']
  have w6 : w'.okind = w.okind := by rw [hw']
  have hlv : ∀ p, R.live p → R1.live p := fun p ⟨x, hx, hxf⟩ => ⟨x, hold p x hx, hxf⟩
  have hx1 : R1.live w.x := hlv _ x1.1
  have hspo : ∀ p, p < R.spots.length → R1.sp p = R.sp p := fun p hp => by
    rw [sp_of (hold p _ (List.getElem?_eq_getElem hp)), sp_of (List.getElem?_eq_getElem hp)]
  generalize hR' : (R1.mapSp w.x fun x => { x with opn := upd x.opn false true }).setTh i w' = R' at *
  have hts : R'.ts = R.ts.set i w' := by rw [← hR', ← c5]; rfl
  have hgt : ∀ j, R'.ts[j]? = if i = j then some w' else R.ts[j]? := fun j => by rw [hts]; exact set_get' hil _ j
  have hlen' : R'.spots.length = R1.spots.length := by rw [← hR']; simp [BSt.mapSp, BSt.setTh]
  have hlive : ∀ p, R'.live p ↔ R1.live p := fun p => by rw [← hR']; exact mapSp_live (R := R1) (p := w.x) (g := fun x => { x with opn := upd x.opn false true }) (fun _ => rfl) p
  have hsp : ∀ q, R'.sp q = if q = w.x then { R1.sp w.x with opn := upd (R1.sp w.x).opn false true } else R1.sp q := fun q => by rw [← hR']; exact mapSp_sp R1 w.x q _ (fun _ => hx1)
  have hget : ∀ q, R'.spots[q]? = (R1.spots[q]?).map fun x => if q = w.x then { x with opn := upd x.opn false true } else x := fun q => by rw [← hR']; exact mapSp_get R1 w.x q _
  have hback : ∀ (q : Nat) x', R'.spots[q]? = some x' → ∃ x, R1.spots[q]? = some x ∧ x'.leaf = x.leaf ∧ x'.owner = x.owner ∧ x' = if q = w.x then { x with opn := upd x.opn false true } else x := by
    intro q x' hx'
    rw [hget] at hx'
    cases hx : R1.spots[q]? with
    | none => rw [hx] at hx'; simp at hx'
    | some x => rw [hx] at hx'; simp at hx'; exact ⟨x, rfl, by rw [← hx']; split <;> rfl, by rw [← hx']; split <;> rfl, hx'.symm⟩
  have hkey : ∀ q, q < R.spots.length → (R'.sp q).key = (R.sp q).key := by intro q hq; rw [hsp]; split; (rename_i e; rw [← hspo q hq, e]); rw [hspo q hq]
  have hnow : ∀ q, (R'.sp q).now = (R1.sp q).now := by intro q; rw [hsp]; split; (rename_i e; rw [e]); rfl
  have hval : ∀ q, q < R.spots.length → (R'.sp q).value = (R.sp q).value := by intro q hq; rw [hsp]; split; (rename_i e; rw [← hspo q hq, e]); rw [hspo q hq]
  have hownr : ∀ q, (R'.sp q).owner = (R1.sp q).owner := by intro q; rw [hsp]; split; (rename_i e; rw [e]); rfl
  have hpub : ∀ p, Pub R p → Pub R' p := by
    intro p hp
    refine ⟨(hlive p).2 (hlv p hp.1), ?_⟩
    intro j v hv hbv hav
    rw [hgt] at hv
    split at hv
    · obtain rfl := Option.some.inj hv
      intro hm
      have := (hn1 p hm).1
      have := hp.1.lt
      omega
    · exact hp.2 j v hv hbv hav
  have hnlt : ∀ (j : Nat) (v : BThread) (p : Nat), R.ts[j]? = some v → v.busy = true → p ∈ v.new → p < R.spots.length := fun j v p hv hbv hp => (h.inv.th j v hv hbv).bn p hp
  have hwlt : ∀ (j : Nat) (v : BThread) (p : Nat), R.ts[j]? = some v → p ∈ v.want.take v.have_ → p < R.spots.length := by
    intro j v p hv hp
    cases hvb : v.busy
    · rw [h.inv.idle j v hv hvb] at hp; simp at hp
    · exact (h.inv.th j v hv hvb).bw p (List.mem_of_mem_take hp)
  have hin := h.inv
  refine ⟨⟨by rw [← hR']; exact c1.trans hin.kind, by rw [hts, List.length_set, ← hin.thl, ← hR']; exact c2, by rw [hts, List.length_set]; exact hin.th8, ?_, ?_, hpub _ hin.s0, hpub _ hin.s1, by rw [hkey 1 hin.s1.1.lt]; exact hin.k1, ?_, ?_, ?_, ?_, ?_, ?_, ?_, ?_, ?_, ?_, ?_⟩, hC, by rw [← hR']; exact h.kind.trans c1.symm, by rw [← hR']; exact h.limit.trans c4.symm, by rw [← hR']; exact h.clock.trans c3.symm, by rw [hts, List.length_set]; simpa [PSt.setT, PSt.setM] using h.tlen, ?_⟩
  · have e : R'.clock = R.clock ∧ R'.limit = R.limit := by rw [← hR']; exact ⟨c3, c4⟩
    rw [e.1, e.2]; exact hin.clk
  · have e : R'.limit = R.limit := by rw [← hR']; exact c4
    rw [e]; exact hin.lim
  · intro q x' hx'
    obtain ⟨x, hx, e, _⟩ := hback q x' hx'
    rw [e]
    by_cases hq : q < R.spots.length
    · have := hold q _ (List.getElem?_eq_getElem hq)
      rw [hx] at this; obtain rfl := Option.some.inj this
      exact hin.lf q _ (List.getElem?_eq_getElem hq)
    · obtain ⟨_, _, hq2, hl, _⟩ := hnew q x hx (by omega)
      rw [hl]; simp; omega
  · intro q hq hq1
    rw [hnow]
    by_cases hql : q < R.spots.length
    · rw [hspo q hql]
      have hlq : R.live q := by
        obtain ⟨x, hx, hxf⟩ := (hlive q).1 hq
        have := hold q _ (List.getElem?_eq_getElem hql)
        rw [hx] at this; obtain rfl := Option.some.inj this
        exact ⟨_, List.getElem?_eq_getElem hql, hxf⟩
      obtain ⟨a, b⟩ := hin.nxt q hlq hq1
      exact ⟨hpub _ a, b⟩
    · obtain ⟨x, hx, hxf⟩ := (hlive q).1 hq
      obtain ⟨_, _, _, _, _, hc, _⟩ := hnew q x hx (by omega)
      rw [sp_of hx, hc]
      exact ⟨hpub _ k1, k2⟩
  · intro q hq
    rw [hnow, hlen']
    rw [hlen'] at hq
    by_cases hql : q < R.spots.length
    · rw [hspo q hql]; exact Nat.lt_of_lt_of_le (hin.nowb q hql) hlen
    · have hx := List.getElem?_eq_getElem hq
      obtain ⟨_, _, _, _, _, hc, _⟩ := hnew q _ hx (by omega)
      rw [sp_of hx, hc]; exact Nat.lt_of_lt_of_le hU.bc hlen
  · intro q x' hx'
    obtain ⟨x, hx, _, e, _⟩ := hback q x' hx'
    rw [e]
    by_cases hql : q < R.spots.length
    · have := hold q _ (List.getElem?_eq_getElem hql)
      rw [hx] at this; obtain rfl := Option.some.inj this
      rcases hin.own0 q _ (List.getElem?_eq_getElem hql) with h1 | ⟨j, v, hv, h1, h2⟩
      · exact .inl h1
      · right
        by_cases hij : i = j
        · subst hij
          rw [hw] at hv; obtain rfl := Option.some.inj hv
          exact ⟨i, w', by rw [hgt, if_pos rfl], h1, by rw [w4, w5]; exact h2⟩
        · exact ⟨j, v, by rw [hgt, if_neg hij]; exact hv, h1, h2⟩
    · obtain ⟨_, _, _, _, _, _, ho, _⟩ := hnew q x hx (by omega)
      exact .inl ho
  · intro j v p hv hp
    rw [hownr]
    rw [hgt] at hv
    split at hv
    · next e =>
      subst e
      obtain rfl := Option.some.inj hv
      rw [w4, w5] at hp
      rw [hspo p (hwlt i w p hw hp)]; exact hin.own1 i w p hw hp
    · rw [hspo p (hwlt j v p hv hp)]; exact hin.own1 j v p hv hp
  · intro q x' s hx' hxf' ho
    obtain ⟨x, hx, _, _, e⟩ := hback q x' hx'
    have hxf : x.free = false := by
      rw [← hxf', e]; split <;> rfl
    by_cases hql : q < R.spots.length
    · have hx0 := hold q _ (List.getElem?_eq_getElem hql)
      rw [hx] at hx0; obtain rfl := Option.some.inj hx0
      have hxq := List.getElem?_eq_getElem hql
      by_cases eq : q = w.x
      · rw [e, if_pos eq] at ho
        cases s
        · exact ⟨rfl, i, w', by rw [hgt, if_pos rfl], w2, .inl ⟨by omega, by omega, by rw [w3]; exact eq.symm⟩⟩
        · simp only at ho
          rw [upd_ne _ _ (by decide)] at ho
          exact absurd (hin.opn q _ true hxq hxf ho).1 (by decide)
      · rw [e, if_neg eq] at ho
        obtain ⟨o1, j, v, hv, hbv, hor⟩ := hin.opn q _ s hxq hxf ho
        refine ⟨o1, ?_⟩
        by_cases hij : i = j
        · subst hij
          rw [hw] at hv; obtain rfl := Option.some.inj hv
          omega
        · exact ⟨j, v, by rw [hgt, if_neg hij]; exact hv, hbv, hor⟩
    · obtain ⟨_, hm, _, _, _, _, _, _, ot, _⟩ := hnew q x hx (by omega)
      have eq : q ≠ w.x := by have := x1.1.lt; omega
      rw [e, if_neg eq] at ho
      cases s
      · exact ⟨rfl, i, w', by rw [hgt, if_pos rfl], w2, .inr ⟨w1, hm⟩⟩
      · rw [ot] at ho; cases ho
  · intro j v q hv hbv hav hq
    rw [hgt] at hv
    split at hv
    · obtain rfl := Option.some.inj hv
      have hb1 := hn1 q hq
      have hx := List.getElem?_eq_getElem hb1.2
      obtain ⟨_, _, _, _, _, _, _, oo, _, ss⟩ := hnew q _ hx hb1.1
      have eq : q ≠ w.x := by have := x1.1.lt; omega
      rw [hsp, if_neg eq, sp_of hx]; exact ⟨oo, ss⟩
    · have hql := hnlt j v q hv hbv hq
      have eq : q ≠ w.x := by rintro rfl; exact x1.2 j v hv hbv hav hq
      rw [hsp, if_neg eq, hspo q hql]; exact hin.nst j v q hv hbv hav hq
  · intro a c u v p hu hv hbu hbv hau hav hpu hpv
    rw [hgt] at hu hv
    split at hu <;> split at hv
    · next e1 e2 => exact e1.symm.trans e2
    · obtain rfl := Option.some.inj hu
      have := (hn1 p hpu).1
      have := hnlt c v p hv hbv hpv
      omega
    · obtain rfl := Option.some.inj hv
      have := (hn1 p hpv).1
      have := hnlt a u p hu hbu hpu
      omega
    · exact hin.uniq a c u v p hu hv hbu hbv hau hav hpu hpv
  · intro j v hv hbv
    rw [hgt] at hv
    split at hv
    · obtain rfl := Option.some.inj hv; rw [w2] at hbv; cases hbv
    · exact hin.idle j v hv hbv
  · intro j v hv
    rw [hgt] at hv
    split at hv
    · obtain rfl := Option.some.inj hv; rw [hw']; exact hin.lst i w hw
    · exact hin.lst j v hv
  · intro j v hv hbv
    rw [hgt] at hv
    split at hv
    · obtain rfl := Option.some.inj hv
      have kx := hkey w.x x1.1.lt
      have kc := hkey w.c k1.1.lt
      have q1 : w'.x = w.x := by rw [hw']
      have q2 : w'.c = w.c := by rw [hw']
      have q3 : w'.okey = w.okey := by rw [hw']
      refine ⟨by rw [w6]; exact hU.kd, by rw [q3]; exact hU.key, by omega, by rw [q1, hlen']; exact Nat.lt_of_lt_of_le hU.bx hlen, by rw [q2, hlen']; exact Nat.lt_of_lt_of_le hU.bc hlen, by rw [w3, hlen']; exact Nat.lt_of_lt_of_le hU.bx hlen, by rw [w4, hlen']; exact fun p hp => Nat.lt_of_lt_of_le (hU.bw p hp) hlen, by rw [hlen']; exact fun p hp => (hn1 p hp).2, by rw [hw']; exact hU.xs, by rw [hw'], by rw [w4, w5]; exact hU.hw, by rw [w4]; exact hU.wl, hnl, by omega, by omega, fun _ _ => by rw [w4, w5]; exact hU.h6 (by omega) (by omega), by omega, fun _ _ => ?_, fun _ _ => ?_, fun _ _ => ?_, by omega, fun _ _ => ?_, fun _ _ hor => ?_, fun _ => ?_, by omega, fun _ => ?_, by omega, by rw [hw']; exact hU.sp⟩
      · rw [q1, kx, q3]; exact ⟨hpub _ x1, x2, x3⟩
      · rw [q2, kc, q3, w4, w6, q1]; exact ⟨hpub _ k1, k2, k3, k4⟩
      · rw [q2, kc, q3, w6]; exact hU.k7 (by omega) (by omega)
      · rw [w3, q1, hsp, if_pos rfl]; exact ⟨rfl, by simp [upd_same], hdst.2⟩
      · rw [w6] at hor
        exact hpub _ (hd2 (by omega)).1
      · rw [w6]
        split
        · next h1 => obtain ⟨a, b, c⟩ := hd1 h1; exact ⟨a, (hlive _).2 b, c⟩
        · next h1 => exact (hd2 (by have := hU.kd; omega)).2
      · rw [hw']; exact hU.an (by omega)
    · next hij =>
      have hV := hin.th j v hv hbv
      refine hV.mono (by rw [hlen']; exact hlen) hpub hkey (fun a b => ?_) (fun _ q _ hl => (hlive q).2 (hlv q hl))
      have hne := (h.otherLink hw hv hb hbv (by omega) (by omega) a b hij).2.1
      rw [hsp, if_neg hne, hspo _ hV.bx]; exact (hV.s8 a b).2.1
  · intro j u v hu hv
    rw [pset_get (P.setM M') (List.getElem?_eq_some_iff.1 ht).1] at hu
    rw [hgt] at hv
    show TRel f' M'.es R' u v
    by_cases e : i = j
    · rw [if_pos e] at hu hv
      obtain rfl := Option.some.inj hu
      obtain rfl := Option.some.inj hv
      refine ⟨by rw [w2]; exact hT.busy.trans hb, by rw [hw']; exact hT.has, by rw [hw']; exact hT.last, fun _ => ?_⟩
      have q1 : w'.x = w.x := by rw [hw']
      have q2 : w'.c = w.c := by rw [hw']
      refine ⟨by rw [hk, w1], by rw [hk, w6]; exact hW.kind, by rw [hk, hw']; exact hW.key, by rw [hk, hw']; exact hW.val, by rw [hk, hw']; exact hW.time, fun _ _ => by rw [hk, q1, hf _ x1.1.lt]; exact hW.stand (by omega) (by omega), fun _ _ => by rw [hk, q2, hf _ k1.1.lt]; exact hW.ahead (by omega) (by omega), by rw [hk, w5]; exact hW.locks, fun _ => by rw [hk], fun _ _ => by rw [hk, w3, hf _ x1.1.lt]; exact ⟨rfl, rfl⟩, fun _ _ => by rw [w3]; exact hpd, fun _ => by rw [hk, hw']; exact hW.ans (by omega), by omega, by rw [hk]; simp; omega⟩
    · rw [if_neg e] at hu hv
      exact (h.th j u v hu hv).keep (fun hb => hin.th j v hv hb) hf (fun hb a b => (hin.th j v hv hb).dlt a (by omega)) hval (fun hbv a b hq => hps _ _ _ (h.otherLink hw hv hb hbv (by omega) (by omega) a (by omega) e).2.2 hq)
end
end Go.Proofs.YtfccelbmacjifaaGreat

set_option linter.unusedSimpArgs false
namespace Go.Proofs.YtfccelbmacjifaaGreat
section
variable {f : Nat → Nat} {P : PSt} {R : BSt} {M : PMem}
theorem sim7rem (h : Rel f P R) {i : Nat} {t : PThread} {w : BThread} (ht : P.ts[i]? = some t) (hw : R.ts[i]? = some w) (hb : w.busy = true) (ha : w.at_ = 7) (hfull : ¬ (R.room.1 < (R.needs w).1 ∨ R.room.2 < (R.needs w).2)) (hk2 : w.okind = 2) : (P.step i t).2 = (R.stepL i w).2 ∧ Rel f (P.step i t).1 (R.stepL i w).1 := by
  obtain ⟨hU, hW⟩ := h.one ht hw hb
  have hn : t.work.next = 7 := hW.next.trans ha
  have hkd : t.work.kind = 1 ∨ t.work.kind = 2 := by rw [hW.kind]; exact hU.kd
  have hk0 := h.inv.kind
  have hr := h.core.room
  obtain ⟨x1, x2, x3⟩ := hU.xl (by omega) (by omega)
  obtain ⟨k1, k2, k3, k4⟩ := hU.cl (by omega) (by omega)
  have hck : (R.sp w.c).key = w.okey := (hU.k7 (by omega) (by omega)).2 hk2
  have hc1 : w.c ≠ 1 := by intro e; rw [e, h.inv.k1] at hck; have := hU.key; unfold keyEnd at hck; omega
  obtain ⟨d1, d2⟩ := h.inv.nxt w.c k1.1 hc1
  have hleaf : (R.sp w.x).leaf = false := by rw [h.inv.lf w.x _ x1.1.sp.1]; simpa using x2
  have hlk : b2i false < linksOf R.kind w.x (R.sp w.x) := by unfold linksOf; rw [hleaf]; simp [hk0]; decide
  have hside := (h.core.list hk0 x1.1 hleaf t.work.key).1
  have hroom : 0 < P.mem.room.2 := by
    rw [hr]
    have := (h.need ht hw hb).2
    rw [if_neg (by omega)] at this
    rw [this] at hfull
    simp at hfull; omega
  obtain ⟨hC, hpd, hPS, _⟩ := h.core.pend x1.1 false hlk (h.inv.shut hw hb ha) hroom (f ((R.sp w.c).now false) : Int)
  have e1 : P.step i t = ((P.setM (P.mem.pend (f w.x) false (f ((R.sp w.c).now false) : Int))).setT i { t with work := { t.work with next := 8, made := (w.new.map fun p => (f p : Int)), tsrc := (f w.x : Int), tside := false } }, 1) := by
    rw [step_update (by omega) (by omega) hkd]; simp only [PSt.update, hn]
    unfold PSt.prepare
    rw [hr, (h.need ht hw hb).1, if_neg hfull]
    have hnk : ¬ t.work.kind = 1 := by rw [hW.kind]; omega
    have hpk : P.kind = 0 := h.kind.trans hk0
    have hlead : P.leadsFrom t.work.ahead t.work.key = (f ((R.sp w.c).now false) : Int) := by rw [hW.ahead (by omega) (by omega)]; exact h.leads k1.1 hc1 _
    simp only [if_neg hnk, PSt.prepareRemove, if_pos hpk]
    rw [hW.stand (by omega) (by omega), hside, hlead, ← hW.made (by omega)]
    rw [pset_work (P := P.setM (P.mem.pend (f w.x) false (f ((R.sp w.c).now false) : Int))) ht]
  have e2 : R.stepL i w = ((R.mapSp w.x fun x => { x with opn := upd x.opn false true }).setTh i { w with at_ := 8, src := w.x, side := false, dst := (R.sp w.c).now false }, 1) := by
    simp only [BSt.stepL, ha, BSt.turns]; unfold BSt.prepares; rw [if_neg hfull]
    simp only [hU.xs]
    rw [if_neg (by omega), if_pos hk0]; rfl
  rw [e1, e2]
  refine ⟨rfl, ?_⟩
  have hnil := hU.n7 (by omega)
  refine h.opened (R1 := R) (w' := { w with at_ := 8, src := w.x, side := false, dst := (R.sp w.c).now false }) ht hw hb ha rfl rfl rfl rfl rfl rfl (Nat.le_refl _) (fun _ _ hx => hx) ?_ ?_ hU.nl ⟨d1.1.lt, d2⟩ (fun _ => ⟨d1, hnil⟩) (by omega) (fun _ _ => rfl) (hC.congr rfl rfl rfl rfl) hpd (fun m r d hm hd => hPS m r d (.inl hm) hd) rfl
  · intro p x hx hp
    have := (List.getElem?_eq_some_iff.1 hx).1
    omega
  · intro p hp; simp only [hnil] at hp; simp at hp

theorem count_set_used {es : List PEntry} {q : Nat} {e : PEntry} (hq : es[q]? = some PEntry.zero) (he : e.used = true) : count (fun x => !x.used) (es.set q e) + 1 = count (fun x => !x.used) es := by
  obtain ⟨r, h1, h2⟩ := filter_set (fun x : PEntry => !x.used) hq
  have h3 := h2 e
  simp [PEntry.zero] at h1
  simp [he] at h3
  unfold count
  rw [h1.length_eq, h3.length_eq]; simp

theorem sim7ins (h : Rel f P R) {i : Nat} {t : PThread} {w : BThread} (ht : P.ts[i]? = some t) (hw : R.ts[i]? = some w) (hb : w.busy = true) (ha : w.at_ = 7) (hfull : ¬ (R.room.1 < (R.needs w).1 ∨ R.room.2 < (R.needs w).2)) (hk1 : w.okind = 1) : (P.step i t).2 = (R.stepL i w).2 ∧ ∃ f', Rel f' (P.step i t).1 (R.stepL i w).1 := by
  obtain ⟨hU, hW⟩ := h.one ht hw hb
  have hn : t.work.next = 7 := hW.next.trans ha
  have hkd : t.work.kind = 1 ∨ t.work.kind = 2 := by rw [hW.kind]; exact hU.kd
  have hk0 := h.inv.kind
  have hr := h.core.room
  obtain ⟨x1, x2, x3⟩ := hU.xl (by omega) (by omega)
  obtain ⟨c1, c2, c3, c4⟩ := hU.cl (by omega) (by omega)
  have hleaf : (R.sp w.x).leaf = false := by rw [h.inv.lf w.x _ x1.1.sp.1]; simpa using x2
  have hlk : b2i false < linksOf R.kind w.x (R.sp w.x) := by unfold linksOf; rw [hleaf]; simp [hk0]; decide
  have hneed := (h.need ht hw hb).2
  rw [if_pos hk1] at hneed
  have hf2 := hfull
  rw [hneed] at hf2
  simp at hf2
  have hrn : 1 ≤ P.mem.room.1 := by rw [hr]; omega
  have hre : 2 ≤ P.mem.room.2 := by rw [hr]; omega
  -- a node out of the pool
  obtain ⟨z0, hz0, hz0u⟩ := count_pos (fun x : PNode => !x.used) P.mem.ns (by unfold PMem.room at hrn; simp at hrn; omega)
  obtain ⟨k, z, hkz, hzu, hfind⟩ := find_some (p := fun x : PNode => !x.used) hz0 hz0u
  have hzu' : z.used = false := by simpa using hzu
  have hfree : P.mem.freeNode = (k : Int) := hfind
  have hklt := (List.getElem?_eq_some_iff.1 hkz).1
  have hnek : ∀ p, R.live p → f p ≠ k := by
    intro p hp e
    obtain ⟨m, h1, _, h2⟩ := h.core.node hp
    rw [e, hkz] at h1; obtain rfl := Option.some.inj h1
    rw [h2.used] at hzu'; cases hzu'
  have hst := hW.stand (by omega) (by omega)
  have hah := hW.ahead (by omega) (by omega)
  have hval := hW.val hk1
  -- the node is linked
  let nd : PNode := linked false (f w.c : Int) (PNode.made w.okey w.ovalue)
  let Ma : PMem := { P.mem with ns := P.mem.ns.set k (PNode.made w.okey w.ovalue) }
  let Mb : PMem := { P.mem with ns := P.mem.ns.set k nd }
  have hmake : P.mem.make t.work.key t.work.value = (Ma, (k : Int)) := by
    unfold PMem.make
    rw [hfree, hasNode_of hkz, hW.key, hval]
    simp [Ma]
  have hMak : Ma.ns[k]? = some (PNode.made w.okey w.ovalue) := by simp [Ma, hklt]
  have hMax : ∀ p, R.live p → Ma.ns[f p]? = P.mem.ns[f p]? := by
    intro p hp; show (P.mem.ns.set k _)[f p]? = _
    rw [List.getElem?_set, if_neg (fun e => hnek p hp e.symm)]
  have hsideA : Ma.sideFor (f w.x) t.work.key = false := by
    obtain ⟨m, hm, _, hrel⟩ := h.core.node x1.1
    have hm' : Ma.ns[f w.x]? = some m := by rw [hMax _ x1.1]; exact hm
    unfold PMem.sideFor
    rw [node_of hm', hrel.links]
    unfold linksOf; rw [hleaf]; simp [hk0]
  have hfe : ∃ e ∈ P.mem.es, e.used = false := by
    obtain ⟨e, h1, h2⟩ := count_pos (fun x : PEntry => !x.used) P.mem.es (by unfold PMem.room at hre; simp at hre; omega)
    exact ⟨e, h1, by simpa using h2⟩
  have hfree1 : (Ma.freeEntry != -1) = true := by
    obtain ⟨e, he, heu⟩ := hfe
    obtain ⟨q, y, hq1, hq2, hq3⟩ := find_some (p := fun x : PEntry => !x.used) he (by simp [heu])
    have : Ma.freeEntry = (q : Int) := hq3
    rw [this, bne_iff_ne]; omega
  have hadd : Ma.addLink (k : Int) t.work.ahead = Mb.pend (k : Int) false (f w.c : Int) := by
    unfold PMem.addLink
    rw [hasNode_of hMak, hfree1, node_of hMak, hah]
    have hmod : Ma.modN (k : Int) (linked false (f w.c : Int)) = Mb := by
      unfold PMem.modN
      rw [hasNode_of hMak]
      simp only [if_true, Int.toNat_natCast]
      have hl : (P.mem.ns.set k (PNode.made w.okey w.ovalue)).modify k (linked false (f w.c : Int)) = P.mem.ns.set k nd := by
        apply List.ext_getElem?
        intro j
        rw [modify_get, List.getElem?_set, List.getElem?_set]
        by_cases e : k = j
        · subst e; simp [hklt, nd]
        · have : ¬ j = k := fun e' => e e'.symm
          simp [e, this]
      show PMem.mk ((P.mem.ns.set k (PNode.made w.okey w.ovalue)).modify k (linked false (f w.c : Int))) P.mem.es = PMem.mk (P.mem.ns.set k nd) P.mem.es
      rw [hl]
    simp [PNode.made, PNode.zero]
    exact congrArg (fun m : PMem => m.pend (k : Int) false (f w.c : Int)) hmod
  -- the document's side
  let y0 : BSpot := { nodeOf w.okey w.ovalue w.c with opn := fun _ => false }
  have hcl : ∀ (j : Nat) x s, R.spots[j]? = some x → x.free = false → b2i s < linksOf R.kind j x → x.now s < R.spots.length := by
    intro j x s hx hxf hs
    have hlf := h.inv.lf j x hx
    have hs0 : s = false ∧ j ≠ 1 := by
      by_cases hj : j = 1
      · rw [hj] at hlf; unfold linksOf at hs; rw [hlf] at hs; simp at hs
        cases s <;> simp [b2i] at hs
      · refine ⟨?_, hj⟩
        cases s
        · rfl
        · unfold linksOf at hs; rw [hlf] at hs; simp [hj, hk0, b2i] at hs
    rw [hs0.1]
    have := (h.inv.nxt j ⟨x, hx, hxf⟩ hs0.2).1.1.lt
    rw [sp_of hx] at this
    exact this
  have hCb : Core (more f R.spots.length k) Mb (R.push y0) := by
    refine h.core.newSpot hkz hzu' y0 nd hcl rfl (fun _ => rfl) (fun _ => rfl) ?_
    refine ⟨rfl, rfl, rfl, rfl, rfl, ?_, ?_, rfl, fun hh => by simp [y0, nodeOf] at hh⟩
    · show (0 + 1 : Nat) = linksOf R.kind R.spots.length y0
      unfold linksOf; simp [y0, nodeOf, hk0]
    · intro s hs
      have hs0 : s = false := by
        cases s
        · rfl
        · have hl : nd.links = 1 := rfl
          rw [hl] at hs; exact absurd hs (by decide)
      subst hs0
      show upd (PNode.made w.okey w.ovalue).leads false (f w.c : Int) false = (more f R.spots.length k (upd (fun _ => 1) false w.c false) : Int)
      rw [upd_same, upd_same, more_old f k c1.1.lt]
  have hll : (R.push y0).live R.spots.length := (push_live (R := R) (y := y0) rfl _).2 (.inr rfl)
  have hspl : (R.push y0).sp R.spots.length = y0 := sp_of (by rw [push_get]; simp)
  have hroomb : Mb.room.2 = P.mem.room.2 := rfl
  obtain ⟨hC2, hpd2, hPS2, hns2⟩ := hCb.pend hll false (by rw [hspl]; show b2i false < linksOf R.kind R.spots.length y0; unfold linksOf; simp [y0, nodeOf, hk0]; decide) (by rw [hspl]) (by rw [hroomb]; omega) (f w.c : Int)
  rw [more_new] at hC2 hpd2 hPS2 hns2
  have hroom2 : 0 < (Mb.pend (k : Int) false (f w.c : Int)).room.2 := by
    obtain ⟨q, hq, he⟩ := pend_eq (M := Mb) (f w.c : Int) hCb.ez (by obtain ⟨e, he, hu⟩ := hfe; exact ⟨e, he, hu⟩) (by
      have := hCb.hasLink hll (s := false) (by rw [hspl]; show b2i false < linksOf R.kind R.spots.length y0; unfold linksOf; simp [y0, nodeOf, hk0]; decide)
      rw [more_new] at this; exact this)
    rw [he]
    unfold PMem.room at hre ⊢
    have := count_set_used (es := P.mem.es) (q := q) (e := ⟨true, true, k, false, f w.c, 0⟩) hq rfl
    simp only at hre ⊢
    show (0 : Int) < (count (fun x => !x.used) (P.mem.es.set q _) : Nat)
    omega
  have epush : (R.push y0).mapSp R.spots.length (fun x => { x with opn := upd x.opn false true }) = R.push (nodeOf w.okey w.ovalue w.c) := by
    unfold BSt.mapSp BSt.push
    simp only
    congr 1
    apply List.ext_getElem?
    intro j
    rw [modify_get]
    by_cases hj : j < R.spots.length
    · rw [List.getElem?_append_left hj, List.getElem?_append_left hj]
      cases R.spots[j]? with
      | none => rfl
      | some x => simp; omega
    · rw [List.getElem?_append_right (by omega), List.getElem?_append_right (by omega)]
      by_cases hj2 : j = R.spots.length
      · subst hj2; simp [y0, nodeOf]
      · rw [List.getElem?_eq_none (by simp; omega), List.getElem?_eq_none (by simp; omega)]; rfl
  rw [epush] at hC2
  have hxl : (R.push (nodeOf w.okey w.ovalue w.c)).live w.x := (push_live (R := R) (y := nodeOf w.okey w.ovalue w.c) rfl _).2 (.inl x1.1)
  have hspx : (R.push (nodeOf w.okey w.ovalue w.c)).sp w.x = R.sp w.x := by
    rw [sp_of (R := R.push (nodeOf w.okey w.ovalue w.c)) (x := R.sp w.x) (by rw [push_get, if_pos x1.1.lt]; exact x1.1.sp.1)]
  obtain ⟨hC3, hpd3, hPS3, _⟩ := hC2.pend hxl false (by rw [hspx]; exact hlk) (by rw [hspx]; exact h.inv.shut hw hb ha) hroom2 (k : Int)
  rw [more_old f k x1.1.lt] at hC3 hpd3 hPS3
  have e1 : P.step i t = ((P.setM ((Mb.pend (k : Int) false (f w.c : Int)).pend (f w.x) false (k : Int))).setT i { t with work := { t.work with next := 8, made := [(k : Int)], tsrc := (f w.x : Int), tside := false } }, 1) := by
    rw [step_update (by omega) (by omega) hkd]; simp only [PSt.update, hn]
    unfold PSt.prepare
    rw [hr, (h.need ht hw hb).1, if_neg hfull]
    have hnk : t.work.kind = 1 := by rw [hW.kind]; exact hk1
    have hpk : P.kind = 0 := h.kind.trans hk0
    simp only [if_pos hnk, PSt.prepareInsert, if_pos hpk, hmake]
    rw [hadd, hst, hsideA, hW.made (by omega), hU.n7 (by omega)]
    rw [pset_work (P := P.setM ((Mb.pend (k : Int) false (f w.c : Int)).pend (f w.x) false (k : Int))) ht]
    simp [hst]
  have e2 : R.stepL i w = (((R.push (nodeOf w.okey w.ovalue w.c)).mapSp w.x fun x => { x with opn := upd x.opn false true }).setTh i { w with at_ := 8, src := w.x, side := false, dst := R.spots.length, new := [R.spots.length] }, 1) := by
    have hkk : ¬ R.kind = 1 := by rw [hk0]; decide
    simp only [BSt.stepL, ha, BSt.turns]; unfold BSt.prepares; rw [if_neg hfull]
    simp only [hU.xs, if_pos hk1, if_neg hkk]; rfl
  rw [e1, e2]
  refine ⟨rfl, more f R.spots.length k, ?_⟩
  have hl2 : 2 ≤ R.spots.length := by have := h.inv.s1.1.lt; omega
  have hplen : (R.push (nodeOf w.okey w.ovalue w.c)).spots.length = R.spots.length + 1 := by simp [BSt.push]
  refine h.opened (R1 := R.push (nodeOf w.okey w.ovalue w.c)) (w' := { w with at_ := 8, src := w.x, side := false, dst := R.spots.length, new := [R.spots.length] }) ht hw hb ha rfl rfl rfl rfl rfl rfl (by omega) ?_ ?_ ?_ (by simp) ⟨by rw [hplen]; simp, by simp only; omega⟩ (by omega) (fun _ => ⟨rfl, (push_live (R := R) (y := nodeOf w.okey w.ovalue w.c) rfl _).2 (.inr rfl), hl2⟩) (fun p hp => more_old f k hp) (hC3.congr rfl rfl rfl rfl) (by rw [more_old f k x1.1.lt]; simp only [more_new]; exact hpd3) ?_ (by simp [more_new])
  · intro p x hx
    rw [push_get, if_pos (List.getElem?_eq_some_iff.1 hx).1]; exact hx
  · intro p x hx hp
    rw [push_get, if_neg (by omega)] at hx
    split at hx
    · next e =>
      obtain rfl := Option.some.inj hx
      exact ⟨e, by simp [e], by omega, rfl, rfl, by simp [nodeOf, upd_same], rfl, by simp [nodeOf, upd_same], by simp [nodeOf, upd], rfl⟩
    · cases hx
  · intro p hp
    simp at hp; subst hp
    exact ⟨Nat.le_refl _, by omega⟩
  · intro m r d hm hd
    have hmk : m ≠ (k : Int) := by
      rintro rfl
      rw [pdOf_none h.core.ez (n := (k : Int)) (by
        intro e he hu
        obtain ⟨j, x, q1, q2, q3, _⟩ := h.core.own e he hu
        rw [q3]
        have := hnek j ⟨x, q1, q2⟩
        omega) r] at hd
      cases hd
    exact hPS3 m r d (.inl hm) (hPS2 m r d (.inl hmk) hd)
end
end Go.Proofs.YtfccelbmacjifaaGreat

