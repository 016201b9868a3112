import Derived.Test.YtfccelbmacjifaaGreatP19
set_option linter.unusedSimpArgs false
namespace Go.Proofs.YtfccelbmacjifaaGreat
/-! ### The program's threads and the document's -/
structure WRel (f : Nat → Nat) (es : List PEntry) (R : BSt) (k : PWork) (w : BThread) : Prop where
  next : k.next = w.at_
  kind : k.kind = w.okind
  key : k.key = w.okey
  val : w.okind = 1 → k.value = w.ovalue
  time : k.time = w.t
  stand : 4 ≤ w.at_ → w.at_ ≤ 12 → k.stand = (f w.x : Int)
  ahead : 5 ≤ w.at_ → w.at_ ≤ 12 → k.ahead = (f w.c : Int)
  locks : k.locks = w.have_
  made : w.at_ ≤ 8 → k.made = w.new.map fun p => (f p : Int)
  turn : 8 ≤ w.at_ → w.at_ ≤ 11 → k.tsrc = (f w.src : Int) ∧ k.tside = false
  pd : 8 ≤ w.at_ → w.at_ ≤ 10 → pdOf es (f w.src) false = [(f w.dst : Int)]
  ans : w.at_ ≠ 9 → k.ans = w.ans
  ans9 : w.at_ = 9 → k.ans = { w.ans with value := (R.sp w.c).value }
  ml : k.made.length ≤ 2
structure TRel (f : Nat → Nat) (es : List PEntry) (R : BSt) (t : PThread) (w : BThread) : Prop where
  busy : t.busy = w.busy
  has : t.hasEnded = w.has
  last : t.last = w.last
  work : w.busy = true → WRel f es R t.work w
structure Rel (f : Nat → Nat) (P : PSt) (R : BSt) : Prop where
  inv : InvU R
  core : Core f P.mem R
  kind : P.kind = R.kind
  limit : P.limit = R.limit
  clock : P.clock = R.clock
  tlen : P.ts.length = R.ts.length
  th : ∀ (i : Nat) t w, P.ts[i]? = some t → R.ts[i]? = some w → TRel f P.mem.es R t w

section
variable {f : Nat → Nat} {P : PSt} {R : BSt}
theorem pset_get (P : PSt) {i j : Nat} {t : PThread} (hi : i < P.ts.length) : (P.setT i t).ts[j]? = if i = j then some t else P.ts[j]? := by
  unfold PSt.setT
  simp only [List.getElem?_set]
  by_cases h : i = j
  · subst h; simp [hi]
  · simp [h]
theorem pset_work {i : Nat} {t : PThread} (ht : P.ts[i]? = some t) (k : PWork) : P.setW i k = P.setT i { t with work := k } := by
  unfold PSt.setW PSt.setT
  congr 1
  apply List.ext_getElem?
  intro j
  rw [List.getElem?_modify, List.getElem?_set]
  by_cases h : i = j
  · subst h
    obtain ⟨h1, h2⟩ := List.getElem?_eq_some_iff.1 ht
    simp [h1, h2]
  · simp [h]
/-- Only a thread turns. -/
theorem Rel.both (h : Rel f P R) {i : Nat} {t t' : PThread} {w w' : BThread} (ht : P.ts[i]? = some t) (hw : R.ts[i]? = some w) (hI : InvU (R.setTh i w')) (hT : TRel f P.mem.es (R.setTh i w') t' w') : Rel f (P.setT i t') (R.setTh i w') := by
  have h1 := (List.getElem?_eq_some_iff.1 ht).1
  have h2 := (List.getElem?_eq_some_iff.1 hw).1
  refine ⟨hI, h.core.congr rfl rfl rfl rfl, h.kind, h.limit, h.clock, by simpa [PSt.setT, BSt.setTh] using h.tlen, ?_⟩
  intro j u v hu hv
  rw [pset_get P h1] at hu
  rw [setTh_get R h2] at hv
  by_cases e : i = j
  · rw [if_pos e] at hu hv
    obtain rfl := Option.some.inj hu
    obtain rfl := Option.some.inj hv
    exact hT
  · rw [if_neg e] at hu hv
    have := h.th j u v hu hv
    exact ⟨this.busy, this.has, this.last, fun hb => let q := this.work hb; ⟨q.next, q.kind, q.key, q.val, q.time, q.stand, q.ahead, q.locks, q.made, q.turn, q.pd, q.ans, q.ans9, q.ml⟩⟩

/-- What the two sides say of a thread. -/
theorem Rel.one (h : Rel f P R) {i : Nat} {t : PThread} {w : BThread} (ht : P.ts[i]? = some t) (hw : R.ts[i]? = some w) (hb : w.busy = true) : ThU R w ∧ WRel f P.mem.es R t.work w :=
  ⟨h.inv.th i w hw hb, (h.th i t w ht hw).work hb⟩

theorem sim1 (h : Rel f P R) {i : Nat} {t : PThread} {w : BThread} (ht : P.ts[i]? = some t) (hw : R.ts[i]? = some w) (hb : w.busy = true) (ha : w.at_ = 1) : (P.step i t).2 = (R.stepL i w).2 ∧ Rel f (P.step i t).1 (R.stepL i w).1 := by
  obtain ⟨hU, hW⟩ := h.one ht hw hb
  have hT := h.th i t w ht hw
  have hn : t.work.next = 1 := hW.next.trans ha
  have e1 : P.step i t = (P.setT i { t with slot := 1, work := { t.work with next := 2 } }, 1) := by simp only [PSt.step, hn]
  have e2 : R.stepL i w = (R.setTh i { w with slot := -2, at_ := 2 }, 1) := by simp only [BSt.stepL, ha]
  rw [e1, e2]
  refine ⟨rfl, h.both ht hw ?_ ?_⟩
  · refine h.inv.setTh hw rfl ?_ ?_ ?_ (h.inv.lst i w hw) ?_
    · intro p _ hor; rw [ha] at hor; omega
    · intro _ h8; cases h8
    · intro hbf; exact absurd (hb.symm.trans hbf) (by simp)
    · intro _ hp
      have hm := hU.mono (R' := R.setTh i { w with slot := -2, at_ := 2 }) (Nat.le_refl _) hp (fun _ _ => rfl) (fun a _ => by omega) (fun a => by omega)
      exact ⟨hm.kd, hm.key, by simp, hm.bx, hm.bc, hm.bs, hm.bw, hm.bn, hm.xs, hm.sd, hm.hw, hm.wl, hm.nl, fun _ => hm.h4 (by omega), by simp, by simp, by simp, by simp, by simp, by simp, fun _ => hm.n7 (by omega), by simp, by simp, by simp, by simp, fun _ => hm.an (by omega), by simp, hm.sp⟩
  · refine ⟨hT.busy, hT.has, hT.last, fun _ => ?_⟩
    exact ⟨rfl, hW.kind, hW.key, hW.val, hW.time, by simp, by simp, hW.locks, fun _ => hW.made (by omega), by simp, by simp, fun _ => hW.ans (by omega), by simp, hW.ml⟩

theorem sim2 (h : Rel f P R) {i : Nat} {t : PThread} {w : BThread} (ht : P.ts[i]? = some t) (hw : R.ts[i]? = some w) (hb : w.busy = true) (ha : w.at_ = 2) : (P.step i t).2 = (R.stepL i w).2 ∧ Rel f (P.step i t).1 (R.stepL i w).1 := by
  obtain ⟨hU, hW⟩ := h.one ht hw hb
  have hT := h.th i t w ht hw
  have hn : t.work.next = 2 := hW.next.trans ha
  have e1 : P.step i t = (P.setT i { t with work := { t.work with time := P.clock, next := 3 } }, 1) := by simp only [PSt.step, hn]
  have e2 : R.stepL i w = (R.setTh i { w with t := R.clock, at_ := 3 }, 1) := by simp only [BSt.stepL, ha]
  rw [e1, e2]
  refine ⟨rfl, h.both ht hw ?_ ?_⟩
  · refine h.inv.setTh hw rfl ?_ ?_ ?_ (h.inv.lst i w hw) ?_
    · intro p _ hor; rw [ha] at hor; omega
    · intro _ h8; cases h8
    · intro hbf; exact absurd (hb.symm.trans hbf) (by simp)
    · intro _ hp
      have hm := hU.mono (R' := R.setTh i { w with t := R.clock, at_ := 3 }) (Nat.le_refl _) hp (fun _ _ => rfl) (fun a _ => by omega) (fun a => by omega)
      exact ⟨hm.kd, hm.key, by simp, hm.bx, hm.bc, hm.bs, hm.bw, hm.bn, hm.xs, hm.sd, hm.hw, hm.wl, hm.nl, fun _ => hm.h4 (by omega), by simp, by simp, by simp, by simp, by simp, by simp, fun _ => hm.n7 (by omega), by simp, by simp, by simp, by simp, fun _ => hm.an (by omega), by simp, hm.sp⟩
  · refine ⟨hT.busy, hT.has, hT.last, fun _ => ?_⟩
    exact ⟨rfl, hW.kind, hW.key, hW.val, h.clock, by simp, by simp, hW.locks, fun _ => hW.made (by omega), by simp, by simp, fun _ => hW.ans (by omega), by simp, hW.ml⟩

theorem sim3 (h : Rel f P R) {i : Nat} {t : PThread} {w : BThread} (ht : P.ts[i]? = some t) (hw : R.ts[i]? = some w) (hb : w.busy = true) (ha : w.at_ = 3) : (P.step i t).2 = (R.stepL i w).2 ∧ Rel f (P.step i t).1 (R.stepL i w).1 := by
  obtain ⟨hU, hW⟩ := h.one ht hw hb
  have hT := h.th i t w ht hw
  have hn : t.work.next = 3 := hW.next.trans ha
  have e1 : P.step i t = (P.setT i { t with slot := 2, work := t.work.home }, 1) := by simp only [PSt.step, hn]
  have e2 : R.stepL i w = (R.setTh i { w with slot := w.t, hid := 0, hside := false, hkey := -1, todo := [(0, false)] }.home, 1) := by simp only [BSt.stepL, ha]
  rw [e1, e2]
  have hl0 := h.inv.s0.1.lt
  refine ⟨rfl, h.both ht hw ?_ ?_⟩
  · refine h.inv.setTh hw rfl ?_ ?_ ?_ (h.inv.lst i w hw) ?_
    · intro p _ hor; rw [ha] at hor; omega
    · intro _ h8; cases h8
    · intro hbf; exact absurd (hb.symm.trans hbf) (by simp)
    · intro _ hp
      exact ⟨hU.kd, hU.key, by simp [BThread.home], hl0, hU.bc, hU.bs, hU.bw, hU.bn, rfl, hU.sd, hU.hw, hU.wl, hU.nl, fun _ => hU.h4 (by omega), by simp [BThread.home], by simp [BThread.home], by simp [BThread.home], fun _ _ => ⟨hp 0 h.inv.s0, by simp [BThread.home], .inl rfl⟩, by simp [BThread.home], by simp [BThread.home],
        fun _ => hU.n7 (by omega), by simp [BThread.home], by simp [BThread.home], by simp [BThread.home], by simp [BThread.home], fun _ => hU.an (by omega), by simp [BThread.home], hU.sp⟩
  · refine ⟨hT.busy, hT.has, hT.last, fun _ => ?_⟩
    exact ⟨rfl, hW.kind, hW.key, hW.val, hW.time, fun _ _ => by simp [PWork.home, BThread.home, h.core.f0], by simp [BThread.home], hW.locks, fun _ => hW.made (by omega), by simp [BThread.home], by simp [BThread.home], fun _ => hW.ans (by omega), by simp [BThread.home], hW.ml⟩

theorem sim13 (h : Rel f P R) {i : Nat} {t : PThread} {w : BThread} (ht : P.ts[i]? = some t) (hw : R.ts[i]? = some w) (hb : w.busy = true) (ha : w.at_ = 13) : (P.step i t).2 = (R.stepL i w).2 ∧ Rel f (P.step i t).1 (R.stepL i w).1 := by
  obtain ⟨hU, hW⟩ := h.one ht hw hb
  have hT := h.th i t w ht hw
  have hn : t.work.next = 13 := hW.next.trans ha
  have e1 : P.step i t = (P.setT i t.leave, 3) := by simp only [PSt.step, hn]
  have e2 : R.stepL i w = (R.setTh i w.leave, 3) := by simp only [BSt.stepL, ha]
  have hk : ¬ w.okind = 4 := by have := hU.kd; omega
  have e3 : w.leave = { w with slot := -1, busy := false, has := true, ans := w.ans, last := w.ans } := by unfold BThread.leave; rw [if_neg hk]
  rw [e1, e2, e3]
  refine ⟨rfl, h.both ht hw ?_ ?_⟩
  · refine h.inv.setTh hw rfl ?_ ?_ ?_ hU.sp ?_
    · intro p _ hor; rw [ha] at hor; omega
    · intro hf _; cases hf
    · intro _; exact hU.h13 ha
    · intro hf _; cases hf
  · exact ⟨rfl, rfl, hW.ans (by omega), fun hf => by cases hf⟩
end
end Go.Proofs.YtfccelbmacjifaaGreat

set_option linter.unusedSimpArgs false
namespace Go.Proofs.YtfccelbmacjifaaGreat
section
variable {f : Nat → Nat} {P : PSt} {R : BSt} {M : PMem}
/-- A node of a list, and its link. -/
theorem Core.list (h : Core f M R) (hk : R.kind = 0) {p : Nat} (hp : R.live p) (hl : (R.sp p).leaf = false) (key : Int) : M.sideFor (f p) key = false ∧ M.hasLink (f p) false = true ∧ M.leadsTo (f p) false = (f ((R.sp p).now false) : Int) := by
  obtain ⟨n, hn, hnn, hrel⟩ := h.node hp
  have hlk : n.links = 1 := by rw [hrel.links]; unfold linksOf; rw [hl]; simp [hk]
  have h1 : M.hasLink (f p) false = true := by unfold PMem.hasLink; rw [hasNode_of hn, hnn, hlk]; rfl
  refine ⟨by unfold PMem.sideFor; rw [hnn, hlk]; rfl, h1, ?_⟩
  unfold PMem.leadsTo
  rw [if_pos h1, hnn]
  exact hrel.leads false (by rw [hlk]; decide)
theorem Rel.leads (h : Rel f P R) {p : Nat} (hp : R.live p) (h1 : p ≠ 1) (key : Int) : P.leadsFrom (f p) key = (f ((R.sp p).now false) : Int) := by
  have hl : (R.sp p).leaf = false := by rw [h.inv.lf p _ hp.sp.1]; simpa using h1
  obtain ⟨q1, _, q3⟩ := h.core.list h.inv.kind hp hl key
  unfold PSt.leadsFrom
  rw [q1, q3]
theorem Rel.keyOf (h : Rel f P R) {p : Nat} (hp : R.live p) : (P.mem.node (f p)).key = (R.sp p).key ∧ (P.mem.node (f p)).dead = (R.sp p).dead ∧ (P.mem.node (f p)).value = (R.sp p).value ∧ (P.mem.node (f p)).holder = (R.sp p).owner := by
  obtain ⟨n, _, hnn, hrel⟩ := h.core.node hp
  rw [hnn]; exact ⟨hrel.key, hrel.dead, hrel.value, hrel.holder⟩
/-- A step of an update. -/
theorem step_update {i : Nat} {t : PThread} (h1 : 4 ≤ t.work.next) (h2 : t.work.next ≤ 12) (hk : t.work.kind = 1 ∨ t.work.kind = 2) : P.step i t = P.update i t.work := by
  have hk' : ¬ (t.work.kind = 3 ∨ t.work.kind = 4) := by omega
  unfold PSt.step
  split
  · next h => omega
  · next h => omega
  · next h => omega
  · next h => omega
  · rw [if_neg hk']

theorem sim4 (h : Rel f P R) {i : Nat} {t : PThread} {w : BThread} (ht : P.ts[i]? = some t) (hw : R.ts[i]? = some w) (hb : w.busy = true) (ha : w.at_ = 4) : (P.step i t).2 = (R.stepL i w).2 ∧ Rel f (P.step i t).1 (R.stepL i w).1 := by
  obtain ⟨hU, hW⟩ := h.one ht hw hb
  have hT := h.th i t w ht hw
  have hn : t.work.next = 4 := hW.next.trans ha
  have hkd : t.work.kind = 1 ∨ t.work.kind = 2 := by rw [hW.kind]; exact hU.kd
  have hkk : ¬ R.kind = 1 := by rw [h.inv.kind]; decide
  obtain ⟨hx, hx1, hxk⟩ := hU.xl (by omega) (by omega)
  have hst := hW.stand (by omega) (by omega)
  obtain ⟨hc, hc0⟩ := h.inv.nxt w.x hx.1 hx1
  have hlead : P.leadsFrom t.work.stand t.work.key = (f ((R.sp w.x).now false) : Int) := by rw [hst]; exact h.leads hx.1 hx1 _
  have hcl := hc.1.lt
  have e1 : P.step i t = (P.setT i { t with work := P.walk t.work }, 1) := by rw [step_update (by omega) (by omega) hkd]; simp only [PSt.update, hn]; rw [pset_work ht]
  have e2 : R.stepL i w = (R.setTh i (R.walks w), 1) := by simp only [BSt.stepL, ha]; rw [if_neg (by have := hU.kd; omega)]
  rw [e1, e2]
  refine ⟨rfl, ?_⟩
  have hpass : P.isPassed (P.leadsFrom t.work.stand t.work.key) t.work.key = decide ((R.sp ((R.sp w.x).now false)).key < w.okey) := by
    rw [hlead]; unfold PSt.isPassed; rw [if_neg (by rw [h.kind]; exact hkk), (h.keyOf hc.1).1, hW.key]
  by_cases hlt : (R.sp ((R.sp w.x).now false)).key < w.okey
  · have e3 : P.walk t.work = { t.work with above := t.work.stand, stand := (f ((R.sp w.x).now false) : Int) } := by
      unfold PSt.walk; rw [hpass, decide_eq_true hlt, hlead]; simp
    have e4 : R.walks w = { w with g := w.x, gs := w.xs, x := (R.sp w.x).now false, xs := false } := by
      unfold BSt.walks
      simp only [hU.xs]
      rw [if_pos (by rw [if_neg hkk]; exact decide_eq_true hlt)]
      have : R.sideOf ((R.sp w.x).now false) w.okey = false := by unfold BSt.sideOf; rw [decide_eq_false hkk]; rfl
      rw [this]
    rw [e3, e4]
    have hc1 : (R.sp w.x).now false ≠ 1 := by
      intro e; rw [e, h.inv.k1] at hlt; have := hU.key; unfold keyEnd at hlt; omega
    refine h.both ht hw ?_ ?_
    · refine h.inv.setTh hw rfl ?_ ?_ ?_ (h.inv.lst i w hw) ?_
      · intro p _ hor; rw [ha] at hor; omega
      · intro _ h8; simp only at h8; omega
      · intro hbf; exact absurd (hb.symm.trans hbf) (by simp)
      · intro _ hp
        exact ⟨hU.kd, hU.key, hU.at1, hcl, hU.bc, hU.bs, hU.bw, hU.bn, rfl, hU.sd, hU.hw, hU.wl, hU.nl, hU.h4, hU.h5, hU.h6, hU.h13, fun _ _ => ⟨hp _ hc, hc1, .inr hlt⟩, fun a _ => by simp only at a; omega, fun a _ => by simp only at a; omega, hU.n7, fun a _ => by simp only at a; omega, fun a _ _ => by simp only at a; omega, fun a => by simp only at a; omega, hU.r9, hU.an, hU.did, hU.sp⟩
    · refine ⟨hT.busy, hT.has, hT.last, fun _ => ?_⟩
      exact ⟨hW.next, hW.kind, hW.key, hW.val, hW.time, fun _ _ => rfl, fun a _ => by simp only at a; omega, hW.locks, hW.made, fun a _ => by simp only at a; omega, fun a _ => by simp only at a; omega, hW.ans, fun a => by simp only at a; omega, hW.ml⟩
  · have e3 : P.walk t.work = { t.work with ahead := (f ((R.sp w.x).now false) : Int), next := 5 } := by
      unfold PSt.walk; rw [hpass, decide_eq_false hlt, hlead]; simp
    have e4 : R.walks w = { w with c := (R.sp w.x).now false, at_ := 5, have_ := 0, want := if w.okind = 2 ∧ (R.sp ((R.sp w.x).now false)).key = w.okey then [w.x, (R.sp w.x).now false] else [w.x] } := by
      unfold BSt.walks
      simp only [hU.xs]
      rw [if_neg (by rw [if_neg hkk]; simpa using hlt)]
      simp [hkk]
    rw [e3, e4]
    have h40 := hU.h4 (by omega)
    refine h.both ht hw ?_ ?_
    · refine h.inv.setTh hw (by simp [h40]) ?_ ?_ ?_ (h.inv.lst i w hw) ?_
      · intro p _ hor; rw [ha] at hor; omega
      · intro _ h8; simp only at h8; omega
      · intro hbf; exact absurd (hb.symm.trans hbf) (by simp)
      · intro _ hp
        refine ⟨hU.kd, hU.key, by simp, hU.bx, hcl, hU.bs, ?_, hU.bn, hU.xs, hU.sd, by simp, ?_, hU.nl, by simp, ?_, by simp, by simp, fun _ _ => ⟨hp _ hx, hx1, hxk⟩, fun _ _ => ⟨hp _ hc, hc0, by show w.okey ≤ (R.sp ((R.sp w.x).now false)).key; omega, rfl⟩, by simp, fun _ => hU.n7 (by omega), by simp, by simp, by simp, by simp, fun _ => hU.an (by omega), by simp, hU.sp⟩
        · intro p hp'
          simp only at hp'
          split at hp'
          · simp at hp'; rcases hp' with rfl | rfl; exact hU.bx; exact hcl
          · simp at hp'; subst hp'; exact hU.bx
        · simp only; split <;> simp
        · intro _; simp only; split <;> simp
    · refine ⟨hT.busy, hT.has, hT.last, fun _ => ?_⟩
      exact ⟨rfl, hW.kind, hW.key, hW.val, hW.time, fun _ _ => hst, fun _ _ => rfl, by simp [hW.locks, h40], fun _ => hW.made (by omega), by simp, by simp, fun _ => hW.ans (by omega), by simp, hW.ml⟩
end
end Go.Proofs.YtfccelbmacjifaaGreat

set_option linter.unusedSimpArgs false
namespace Go.Proofs.YtfccelbmacjifaaGreat
section
variable {f : Nat → Nat} {P : PSt} {R : BSt} {M : PMem}
/-- A thread and owners, deaths, times have turned; not keys, links, entries. -/
structure Soft (R R' : BSt) : Prop where
  kind : R'.kind = R.kind
  threads : R'.threads = R.threads
  nodes : R'.nodes = R.nodes
  entries : R'.entries = R.entries
  clock : R'.clock = R.clock
  limit : R'.limit = R.limit
  len : R'.spots.length = R.spots.length
  sp : ∀ (p : Nat) x, R.spots[p]? = some x → ∃ x', R'.spots[p]? = some x' ∧ x'.key = x.key ∧ x'.leaf = x.leaf ∧ x'.free = x.free ∧ x'.now = x.now ∧ x'.opn = x.opn ∧ x'.st = x.st ∧ x'.value = x.value
theorem Soft.back {R' : BSt} (h : Soft R R') {p : Nat} {x' : BSpot} (hx : R'.spots[p]? = some x') : ∃ x, R.spots[p]? = some x ∧ x'.key = x.key ∧ x'.leaf = x.leaf ∧ x'.free = x.free ∧ x'.now = x.now ∧ x'.opn = x.opn ∧ x'.st = x.st ∧ x'.value = x.value := by
  have hp : p < R.spots.length := by rw [← h.len]; exact (List.getElem?_eq_some_iff.1 hx).1
  obtain ⟨y, hy, rest⟩ := h.sp p _ (List.getElem?_eq_getElem hp)
  rw [hx] at hy; obtain rfl := Option.some.inj hy
  exact ⟨_, List.getElem?_eq_getElem hp, rest⟩
theorem Soft.spOf {R' : BSt} (h : Soft R R') (p : Nat) : (R'.sp p).key = (R.sp p).key ∧ (R'.sp p).now = (R.sp p).now ∧ (R'.sp p).opn = (R.sp p).opn ∧ (R'.sp p).st = (R.sp p).st ∧ (R'.sp p).value = (R.sp p).value := by
  cases hx : R.spots[p]? with
  | some x =>
    obtain ⟨x', h1, h2, h3, h4, h5, h6, h7, h8⟩ := h.sp p x hx
    rw [sp_of h1, sp_of hx]; exact ⟨h2, h5, h6, h7, h8⟩
  | none =>
    have : R'.spots[p]? = none := by
      rw [List.getElem?_eq_none_iff] at hx ⊢; rw [h.len]; exact hx
    simp [BSt.sp, hx, this]
theorem Soft.live {R' : BSt} (h : Soft R R') (p : Nat) : R'.live p ↔ R.live p := by
  constructor
  · rintro ⟨x', hx', hf⟩
    obtain ⟨x, hx, _, _, h3, _⟩ := h.back hx'
    exact ⟨x, hx, by rw [← h3]; exact hf⟩
  · rintro ⟨x, hx, hf⟩
    obtain ⟨x', hx', _, _, h3, _⟩ := h.sp p x hx
    exact ⟨x', hx', by rw [h3]; exact hf⟩
theorem InvU.soft (h : InvU R) {R' : BSt} (hs : Soft R R') {i : Nat} {w w' : BThread} (hw : R.ts[i]? = some w) (hts : R'.ts = R.ts.set i w')
    (ho0 : ∀ (p : Nat) x', R'.spots[p]? = some x' → x'.owner = -1 ∨ ∃ (j : Nat) (v : BThread), R'.ts[j]? = some v ∧ x'.owner = j ∧ p ∈ v.want.take v.have_)
    (ho1 : ∀ (j : Nat) (v : BThread) (p : Nat), R'.ts[j]? = some v → p ∈ v.want.take v.have_ → (R'.sp p).owner = j)
    (hopn : ∀ p, w.busy = true → (8 ≤ w.at_ ∧ w.at_ ≤ 11 ∧ w.src = p) ∨ (w.at_ = 8 ∧ p ∈ w.new) → w'.busy = true ∧ ((8 ≤ w'.at_ ∧ w'.at_ ≤ 11 ∧ w'.src = p) ∨ (w'.at_ = 8 ∧ p ∈ w'.new)))
    (h8 : w'.busy = true → w'.at_ = 8 → w.busy = true ∧ w.at_ = 8 ∧ w'.new = w.new)
    (hidle : w'.busy = false → w'.have_ = 0) (hlast : w'.last.spans = []) (hth : w'.busy = true → (∀ p, Pub R p → Pub R' p) → ThU R' w') : InvU R' := by
  have hi := (List.getElem?_eq_some_iff.1 hw).1
  have hg : ∀ j, R'.ts[j]? = if i = j then some w' else R.ts[j]? := by
    intro j; rw [hts, List.getElem?_set]
    by_cases e : i = j
    · subst e; simp [hi]
    · simp [e]
  have hpub : ∀ p, Pub R p → Pub R' p := by
    rintro p ⟨h1, h2⟩
    refine ⟨(hs.live p).2 h1, ?_⟩
    intro j v hv hb ha
    rw [hg] at hv
    split at hv
    · obtain rfl := Option.some.inj hv
      obtain ⟨q1, q2, q3⟩ := h8 hb ha
      rw [q3]; exact h2 i w hw q1 q2
    · exact h2 j v hv hb ha
  refine ⟨hs.kind.trans h.kind, by rw [hs.threads, h.thl, hts]; simp, by rw [hts]; simpa using h.th8, by rw [hs.clock, hs.limit]; exact h.clk, by rw [hs.limit]; exact h.lim, hpub _ h.s0, hpub _ h.s1, by rw [(hs.spOf 1).1]; exact h.k1, ?_, ?_, ?_, ho0, ho1, ?_, ?_, ?_, ?_, ?_, ?_⟩
  · intro p x' hx'
    obtain ⟨x, hx, _, h2, _⟩ := hs.back hx'
    rw [h2]; exact h.lf p x hx
  · intro p hp hp1
    rw [(hs.spOf p).2.1]
    obtain ⟨a, b⟩ := h.nxt p ((hs.live p).1 hp) hp1
    exact ⟨hpub _ a, b⟩
  · intro k hk; rw [(hs.spOf k).2.1, hs.len]; exact h.nowb k (by rw [← hs.len]; exact hk)
  · intro p x' s hx' hxf' ho
    obtain ⟨x, hx, _, _, h3, _, h5, _⟩ := hs.back hx'
    rw [h5] at ho
    obtain ⟨h1, j, v, hv, hb, hor⟩ := h.opn p x s hx (by rw [← h3]; exact hxf') ho
    refine ⟨h1, ?_⟩
    by_cases hij : i = j
    · subst hij
      rw [hw] at hv; obtain rfl := Option.some.inj hv
      obtain ⟨q1, q2⟩ := hopn p hb hor
      exact ⟨i, w', by rw [hg, if_pos rfl], q1, q2⟩
    · exact ⟨j, v, by rw [hg, if_neg hij]; exact hv, hb, hor⟩
  · intro j v p hv hb ha hp
    rw [(hs.spOf p).2.2.1, (hs.spOf p).2.2.2.1]
    rw [hg] at hv
    split at hv
    · obtain rfl := Option.some.inj hv
      obtain ⟨q1, q2, q3⟩ := h8 hb ha
      rw [q3] at hp
      exact h.nst i w p hw q1 q2 hp
    · exact h.nst j v p hv hb ha hp
  · intro a c u v p hu hv hbu hbv hau hav hpu hpv
    rw [hg] at hu hv
    have key : ∀ (d : Nat) (y : BThread), (if i = d then some w' else R.ts[d]?) = some y → y.busy = true → y.at_ = 8 → p ∈ y.new → ∃ y', R.ts[d]? = some y' ∧ y'.busy = true ∧ y'.at_ = 8 ∧ p ∈ y'.new := by
      intro d y hy hb ha hp
      split at hy
      · next e =>
        subst e
        obtain rfl := Option.some.inj hy
        obtain ⟨q1, q2, q3⟩ := h8 hb ha
        exact ⟨w, hw, q1, q2, by rw [← q3]; exact hp⟩
      · exact ⟨y, hy, hb, ha, hp⟩
    obtain ⟨y1, a1, a2, a3, a4⟩ := key a u hu hbu hau hpu
    obtain ⟨y2, b1, b2, b3, b4⟩ := key c v hv hbv hav hpv
    exact h.uniq a c y1 y2 p a1 b1 a2 b2 a3 b3 a4 b4
  · intro j v hv hb
    rw [hg] at hv
    split at hv
    · obtain rfl := Option.some.inj hv; exact hidle hb
    · exact h.idle j v hv hb
  · intro j v hv
    rw [hg] at hv
    split at hv
    · obtain rfl := Option.some.inj hv; exact hlast
    · exact h.lst j v hv
  · intro j v hv hb
    rw [hg] at hv
    split at hv
    · obtain rfl := Option.some.inj hv; exact hth hb hpub
    · exact (h.th j v hv hb).mono (by rw [hs.len]; exact Nat.le_refl _) hpub (fun p _ => (hs.spOf p).1) (fun a b => by rw [(hs.spOf _).2.2.1]; exact ((h.th j v hv hb).s8 a b).2.1) (fun _ p _ hl => (hs.live p).2 hl)

/-- The two sides behind such a step: the entries stand. -/
theorem Rel.soft (h : Rel f P R) {R' : BSt} {M' : PMem} (hs : Soft R R') {i : Nat} {t t' : PThread} {w w' : BThread} (ht : P.ts[i]? = some t) (hw : R.ts[i]? = some w) (hts : R'.ts = R.ts.set i w') (hI : InvU R') (hC : Core f M' R') (he : M'.es = P.mem.es)
    (hT : TRel f M'.es R' t' w') : Rel f ((P.setM M').setT i t') R' := by
  have h1 := (List.getElem?_eq_some_iff.1 ht).1
  have h2 := (List.getElem?_eq_some_iff.1 hw).1
  refine ⟨hI, hC, h.kind.trans hs.kind.symm, h.limit.trans hs.limit.symm, h.clock.trans hs.clock.symm, by rw [hts]; simpa [PSt.setT, PSt.setM] using h.tlen, ?_⟩
  intro j u v hu hv
  rw [pset_get (P.setM M') h1] at hu
  rw [hts, List.getElem?_set] at hv
  by_cases e : i = j
  · subst e
    rw [if_pos rfl] at hu
    simp [h2] at hv
    obtain rfl := Option.some.inj hu
    subst hv
    exact hT
  · rw [if_neg e] at hu
    simp [e] at hv
    have := h.th j u v hu hv
    exact ⟨this.busy, this.has, this.last, fun hb => let q := this.work hb; ⟨q.next, q.kind, q.key, q.val, q.time, q.stand, q.ahead, q.locks, q.made, q.turn, fun a b => by show pdOf M'.es _ _ = _; rw [he]; exact q.pd a b, q.ans, fun a => by rw [(hs.spOf v.c).2.2.2.2]; exact q.ans9 a, q.ml⟩⟩
end
end Go.Proofs.YtfccelbmacjifaaGreat

set_option linter.unusedSimpArgs false
namespace Go.Proofs.YtfccelbmacjifaaGreat
theorem take_not_mem {l : List Nat} (hn : l.Nodup) {k : Nat} {p : Nat} (hk : l[k]? = some p) : p ∉ l.take k := by
  intro hm
  obtain ⟨j, hj⟩ := List.getElem?_of_mem hm
  rw [List.getElem?_take] at hj
  split at hj
  · next hlt =>
    obtain ⟨h1, h2⟩ := List.getElem?_eq_some_iff.1 hk
    obtain ⟨h3, h4⟩ := List.getElem?_eq_some_iff.1 hj
    exact List.pairwise_iff_getElem.1 hn j k h3 h1 hlt (h4.trans h2.symm)
  · cases hj
theorem mem_take_succ {l : List Nat} {k p q : Nat} (hk : l[k]? = some p) : q ∈ l.take (k + 1) ↔ q ∈ l.take k ∨ q = p := by
  obtain ⟨h1, h2⟩ := List.getElem?_eq_some_iff.1 hk
  rw [List.take_succ_eq_append_getElem h1, h2]
  simp
section
variable {f : Nat → Nat} {P : PSt} {R : BSt} {M : PMem}
theorem ThU.wnodup {w : BThread} (h : ThU R w) (h5 : 5 ≤ w.at_) (h12 : w.at_ ≤ 12) : w.want.Nodup ∧ w.x ≠ w.c ∧ (∀ p ∈ w.want, Pub R p) := by
  obtain ⟨c1, c2, c3, c4⟩ := h.cl h5 h12
  obtain ⟨x1, x2, x3⟩ := h.xl (by omega) h12
  have hne : w.x ≠ w.c := by
    intro e
    rcases x3 with x3 | x3
    · exact c2 (by rw [← e]; exact x3)
    · rw [e] at x3; omega
  refine ⟨?_, hne, ?_⟩
  · rw [c4]; split
    · simp [hne]
    · simp
  · intro p hp
    rw [c4] at hp
    split at hp
    · simp at hp; rcases hp with rfl | rfl; exact x1; exact c1
    · simp at hp; subst hp; exact x1
theorem Rel.wanted (h : Rel f P R) {i : Nat} {t : PThread} {w : BThread} (ht : P.ts[i]? = some t) (hw : R.ts[i]? = some w) (hb : w.busy = true) (h5 : 5 ≤ w.at_) (h12 : w.at_ ≤ 12) :
    P.takesOut t.work = decide (w.okind = 2 ∧ (R.sp w.c).key = w.okey) ∧ P.meetsKey t.work = decide ((R.sp w.c).key = w.okey) ∧ P.wanted t.work = w.want.map fun p => (f p : Int) := by
  obtain ⟨hU, hW⟩ := h.one ht hw hb
  obtain ⟨c1, c2, c3, c4⟩ := hU.cl h5 h12
  have hm : P.meetsKey t.work = decide ((R.sp w.c).key = w.okey) := by
    unfold PSt.meetsKey
    rw [hW.ahead h5 h12, (h.keyOf c1.1).1, hW.key]
    rfl
  have ht' : P.takesOut t.work = decide (w.okind = 2 ∧ (R.sp w.c).key = w.okey) := by
    unfold PSt.takesOut
    rw [hm, hW.kind]
    by_cases h1 : w.okind = 2 <;> by_cases h2 : (R.sp w.c).key = w.okey <;> simp [h1, h2]
  refine ⟨ht', hm, ?_⟩
  unfold PSt.wanted
  rw [ht', hW.stand (by omega) h12, hW.ahead h5 h12, c4]
  have hkk : ¬ P.kind = 1 := by rw [h.kind, h.inv.kind]; decide
  by_cases h1 : w.okind = 2 ∧ (R.sp w.c).key = w.okey
  · simp [h1, hkk]
  · simp [h1]
theorem mapSp_soft (p : Nat) (g : BSpot → BSpot) (hg : ∀ x, (g x).key = x.key ∧ (g x).leaf = x.leaf ∧ (g x).free = x.free ∧ (g x).now = x.now ∧ (g x).opn = x.opn ∧ (g x).st = x.st ∧ (g x).value = x.value) (R1 : BSt) (i : Nat) (w : BThread) (hs : Soft R R1) : Soft R ((R1.mapSp p g).setTh i w) := by
  refine ⟨hs.kind, hs.threads, hs.nodes, hs.entries, hs.clock, hs.limit, by simpa [BSt.mapSp, BSt.setTh] using hs.len, ?_⟩
  intro q x hx
  obtain ⟨x', h1, h2, h3, h4, h5, h6, h7, h8⟩ := hs.sp q x hx
  refine ⟨if q = p then g x' else x', ?_, ?_⟩
  · show (R1.mapSp p g).spots[q]? = _
    rw [mapSp_get, h1]; rfl
  · obtain ⟨g1, g2, g3, g4, g5, g6, g7⟩ := hg x'
    split
    · exact ⟨g1.trans h2, g2.trans h3, g3.trans h4, g4.trans h5, g5.trans h6, g6.trans h7, g7.trans h8⟩
    · exact ⟨h2, h3, h4, h5, h6, h7, h8⟩
theorem Soft.refl (R : BSt) : Soft R R := ⟨rfl, rfl, rfl, rfl, rfl, rfl, rfl, fun _ x hx => ⟨x, hx, rfl, rfl, rfl, rfl, rfl, rfl, rfl⟩⟩

theorem sim5 (h : Rel f P R) {i : Nat} {t : PThread} {w : BThread} (ht : P.ts[i]? = some t) (hw : R.ts[i]? = some w) (hb : w.busy = true) (ha : w.at_ = 5) : (P.step i t).2 = (R.stepL i w).2 ∧ Rel f (P.step i t).1 (R.stepL i w).1 := by
  obtain ⟨hU, hW⟩ := h.one ht hw hb
  have hT := h.th i t w ht hw
  have hn : t.work.next = 5 := hW.next.trans ha
  have hkd : t.work.kind = 1 ∨ t.work.kind = 2 := by rw [hW.kind]; exact hU.kd
  obtain ⟨_, _, hwant⟩ := h.wanted ht hw hb (by omega) (by omega)
  obtain ⟨hnd, hxc, hpubs⟩ := hU.wnodup (by omega) (by omega)
  have h5 := hU.h5 ha
  have hp : w.want[w.have_]? = some w.want[w.have_] := List.getElem?_eq_getElem h5
  generalize w.want[w.have_] = p at hp
  have hpm : p ∈ w.want := List.mem_of_getElem? hp
  have hpl := (hpubs p hpm).1
  have hlen : (P.wanted t.work).length = w.want.length := by rw [hwant]; simp
  have hget : (P.wanted t.work)[t.work.locks]?.getD 0 = (f p : Int) := by rw [hwant, hW.locks, List.getElem?_map, hp]; rfl
  have hlk : t.work.locks < (P.wanted t.work).length := by rw [hlen, hW.locks]; exact h5
  have e1 : P.step i t = P.lock i t.work := by rw [step_update (by omega) (by omega) hkd]; simp only [PSt.update, hn]
  have e2 : R.stepL i w = R.locks i w := by simp only [BSt.stepL, ha]
  have e3 : R.locks i w = if 0 ≤ (R.sp p).owner then (R, 2) else ((R.mapSp p fun x => { x with owner := i }).setTh i { w with have_ := w.have_ + 1, at_ := if w.have_ + 1 = w.want.length then 6 else w.at_ }, 1) := by
    simp only [BSt.locks, hp, Option.getD_some]
  have e4 : P.lock i t.work = if (P.mem.lock (f p) i).2 then ((P.setM (P.mem.lock (f p) i).1).setW i { t.work with locks := t.work.locks + 1, next := if (P.wanted t.work).length ≤ t.work.locks + 1 then 6 else t.work.next }, 1) else (P, 2) := by
    simp only [PSt.lock, if_pos hlk, hget]
  rw [e1, e2, e3, e4]
  obtain ⟨n, hnd1, hnn, hrel⟩ := h.core.node hpl
  have hown := h.inv.own0 p _ hpl.sp.1
  have hhold : (P.mem.node (f p)).holder = (R.sp p).owner := by rw [hnn]; exact hrel.holder
  by_cases ho : 0 ≤ (R.sp p).owner
  · have hne : (R.sp p).owner ≠ (i : Int) := by
      intro e
      rcases hown with h1 | ⟨j, v, hv, h1, h2⟩
      · omega
      · have : j = i := by omega
        subst this
        rw [hw] at hv; obtain rfl := Option.some.inj hv
        exact take_not_mem hnd hp h2
    have e5 : (P.mem.lock (f p) i).2 = false := by
      unfold PMem.lock
      rw [if_pos (hasNode_of hnd1), hhold]
      have a1 : ((R.sp p).owner != -1) = true := by rw [bne_iff_ne]; omega
      have a2 : ((R.sp p).owner != (i : Int)) = true := by rw [bne_iff_ne]; exact hne
      rw [a1, a2]; rfl
    rw [if_pos ho, e5]
    exact ⟨rfl, h⟩
  · have ho1 : (R.sp p).owner = -1 := by
      rcases hown with h1 | ⟨j, v, hv, h1, h2⟩
      · exact h1
      · omega
    have e5 : P.mem.lock (f p) i = (P.mem.modN (f p) fun x => { x with holder := (i : Int) }, true) := by
      unfold PMem.lock
      rw [if_pos (hasNode_of hnd1), hhold, ho1]; rfl
    rw [if_neg ho, e5]
    simp only [if_true]
    refine ⟨by trivial, ?_⟩
    rw [pset_work (P := P.setM (P.mem.modN (f p) fun x => { x with holder := (i : Int) })) ht]
    have hsoft : Soft R ((R.mapSp p fun x => { x with owner := (i : Int) }).setTh i { w with have_ := w.have_ + 1, at_ := if w.have_ + 1 = w.want.length then 6 else w.at_ }) :=
      mapSp_soft p (fun x => { x with owner := (i : Int) }) (fun x => ⟨rfl, rfl, rfl, rfl, rfl, rfl, rfl⟩) R i _ (Soft.refl R)
    have hi := (List.getElem?_eq_some_iff.1 hw).1
    have hspots : ∀ q, ((R.mapSp p fun x => { x with owner := (i : Int) }).setTh i { w with have_ := w.have_ + 1, at_ := if w.have_ + 1 = w.want.length then 6 else w.at_ }).spots[q]? = (R.spots[q]?).map fun x => if q = p then { x with owner := (i : Int) } else x := fun q => mapSp_get R p q _
    have hts : ∀ j, ((R.mapSp p fun x => { x with owner := (i : Int) }).setTh i { w with have_ := w.have_ + 1, at_ := if w.have_ + 1 = w.want.length then 6 else w.at_ }).ts[j]? = if i = j then some { w with have_ := w.have_ + 1, at_ := if w.have_ + 1 = w.want.length then 6 else w.at_ } else R.ts[j]? := fun j => setTh_get (R.mapSp p fun x => { x with owner := (i : Int) }) hi
    have hle : w.have_ + 1 ≤ w.want.length := h5
    have hat : (if w.have_ + 1 = w.want.length then 6 else w.at_) = 5 ∧ w.have_ + 1 < w.want.length ∨ (if w.have_ + 1 = w.want.length then 6 else w.at_) = 6 ∧ w.have_ + 1 = w.want.length := by
      by_cases hq : w.have_ + 1 = w.want.length
      · right; exact ⟨if_pos hq, hq⟩
      · left; exact ⟨by rw [if_neg hq]; exact ha, by omega⟩
    generalize hA : (if w.have_ + 1 = w.want.length then 6 else w.at_) = A at *
    refine h.soft hsoft ht hw rfl ?_ ?_ ?_ ?_
    · refine h.inv.soft hsoft hw rfl ?_ ?_ ?_ ?_ ?_ (h.inv.lst i w hw) ?_
      · intro q x' hx'
        rw [hspots] at hx'
        cases hx : R.spots[q]? with
        | none => rw [hx] at hx'; simp at hx'
        | some x =>
          rw [hx] at hx'; simp at hx'; subst hx'
          by_cases hqp : q = p
          · subst hqp
            right
            exact ⟨i, _, by rw [hts, if_pos rfl], by simp, (mem_take_succ hp).2 (.inr rfl)⟩
          · simp only [if_neg hqp]
            rcases h.inv.own0 q x hx with h1 | ⟨j, v, hv, h1, h2⟩
            · exact .inl h1
            · right
              by_cases hij : i = j
              · subst hij
                rw [hw] at hv; obtain rfl := Option.some.inj hv
                exact ⟨i, _, by rw [hts, if_pos rfl], h1, (mem_take_succ hp).2 (.inl h2)⟩
              · exact ⟨j, v, by rw [hts, if_neg hij]; exact hv, h1, h2⟩
      · intro j v q hv hq
        have hsp : ((R.mapSp p fun x => { x with owner := (i : Int) }).setTh i { w with have_ := w.have_ + 1, at_ := A }).sp q = if q = p then { R.sp p with owner := (i : Int) } else R.sp q := by
          by_cases hqp : q = p
          · subst hqp
            rw [if_pos rfl]
            exact sp_of (by rw [hspots, hpl.sp.1]; simp)
          · rw [if_neg hqp]
            cases hx : R.spots[q]? with
            | none => simp only [BSt.sp, hspots, hx]; rfl
            | some x => rw [sp_of hx]; exact sp_of (by rw [hspots, hx]; simp [hqp])
        rw [hsp]
        rw [hts] at hv
        by_cases hij : i = j
        · subst hij
          rw [if_pos rfl] at hv
          obtain rfl := Option.some.inj hv
          rcases (mem_take_succ hp).1 hq with h1 | h1
          · split
            · rfl
            · exact h.inv.own1 i w q hw h1
          · rw [if_pos h1]
        · rw [if_neg hij] at hv
          have := h.inv.own1 j v q hv hq
          rw [if_neg (by rintro rfl; rw [ho1] at this; omega)]
          exact this
      · intro q _ hor; rw [ha] at hor; omega
      · intro _ h8; have h8 : A = 8 := h8; omega
      · intro hbf; exact absurd (hb.symm.trans hbf) (by simp)
      · intro _ hpm
        have hm := hU.mono (R' := (R.mapSp p fun x => { x with owner := (i : Int) }).setTh i { w with have_ := w.have_ + 1, at_ := A }) (by rw [hsoft.len]; exact Nat.le_refl _) hpm (fun q _ => (hsoft.spOf q).1) (fun a _ => by omega) (fun a => by omega)
        exact ⟨hm.kd, hm.key, (show 1 ≤ A ∧ A ≤ 13 by omega), hm.bx, hm.bc, hm.bs, hm.bw, hm.bn, hm.xs, hm.sd, hle, hm.wl, hm.nl, fun a => by have a : A ≤ 4 := a; omega, fun a => by have a : A = 5 := a; show w.have_ + 1 < w.want.length; omega, fun a _ => by have a : 6 ≤ A := a; show w.have_ + 1 = w.want.length; omega, fun a => by have a : A = 13 := a; omega, fun _ _ => hm.xl (by omega) (by omega), fun _ _ => hm.cl (by omega) (by omega), fun a _ => by have a : 7 ≤ A := a; omega, fun _ => hm.n7 (by omega), fun a _ => by have a : 8 ≤ A := a; omega, fun a _ _ => by have a : 8 ≤ A := a; omega, fun a => by have a : A = 8 := a; omega, fun a => by have a : A = 9 := a; omega, fun _ => hm.an (by omega), fun a _ => by have a : 9 ≤ A := a; omega, hm.sp⟩
    · exact (h.core.modNode hpl (fun x => { x with owner := (i : Int) }) (fun x => { x with holder := (i : Int) }) (fun _ => rfl) (fun _ => rfl) (fun _ => rfl) (fun _ => rfl) (fun _ => rfl) (fun m hm => ⟨hm.key, hm.value, hm.dead, hm.used, rfl, hm.links, hm.leads, hm.ret, hm.rat⟩)).congr rfl rfl rfl rfl
    · unfold PMem.modN; rw [hasNode_of hnd1]; rfl
    · refine ⟨hT.busy, hT.has, hT.last, fun _ => ?_⟩
      have hes : (P.mem.modN (f p) fun x => { x with holder := (i : Int) }).es = P.mem.es := by unfold PMem.modN; rw [hasNode_of hnd1]; rfl
      refine ⟨?_, hW.kind, hW.key, hW.val, hW.time, fun _ _ => hW.stand (by omega) (by omega), fun _ _ => hW.ahead (by omega) (by omega), by show t.work.locks + 1 = w.have_ + 1; rw [hW.locks], fun _ => hW.made (by omega), fun a _ => by have a : 8 ≤ A := a; omega, fun a _ => by have a : 8 ≤ A := a; omega, fun _ => hW.ans (by omega), fun a => by have a : A = 9 := a; omega, hW.ml⟩
      simp only [hlen, hW.locks, hn]
      by_cases hq : w.have_ + 1 = w.want.length
      · rw [if_pos (by omega)]; omega
      · rw [if_neg (by omega)]; omega
end
end Go.Proofs.YtfccelbmacjifaaGreat

