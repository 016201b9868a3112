import Derived.Test.YtfccelbmacjifaaGreatP18
set_option linter.unusedSimpArgs false
namespace Go.Proofs.YtfccelbmacjifaaGreat

section
variable {f : Nat → Nat} {M : PMem} {R : BSt}
theorem Core.hasLink (h : Core f M R) {p : Nat} (hp : R.live p) {s : Bool} (hs : b2i s < linksOf R.kind p (R.sp p)) : M.hasLink (f p) s = true := by
  obtain ⟨n, hn, hnn, hrel⟩ := h.node hp
  unfold PMem.hasLink
  rw [hasNode_of hn, hnn, hrel.links]; simpa using hs

/-- The entries turn at one link alone. -/
theorem Core.turnLink (h : Core f M R) {p : Nat} (hp : R.live p) (s : Bool) (hs : b2i s < linksOf R.kind p (R.sp p)) (g : BSpot → BSpot) (es' : List PEntry)
    (hfree : ∀ x, (g x).free = x.free) (hleaf : ∀ x, (g x).leaf = x.leaf)
    (hrel : ∀ n, NodeRel f R.kind p (R.sp p) n → NodeRel f R.kind p (g (R.sp p)) n)
    (hlen : es'.length = M.es.length) (hwf : WfE es')
    (hown : ∀ e ∈ es', e.used = true → e ∈ M.es ∨ (e.src = (f p : Int) ∧ e.side = s))
    (hst : ∀ (n : Int) r, (n ≠ (f p : Int) ∨ r ≠ s) → (stOf es' n r).Perm (stOf M.es n r))
    (hpd : ∀ (n : Int) r, (n ≠ (f p : Int) ∨ r ≠ s) → (pdOf es' n r).Perm (pdOf M.es n r))
    (hst1 : (stOf es' (f p) s).Perm ((g (R.sp p)).st s)) (hpd1 : (pdOf es' (f p) s).length = ((g (R.sp p)).opn s).toNat)
    (hst2 : ∀ r, r ≠ s → (g (R.sp p)).st r = (R.sp p).st r) (hop2 : ∀ r, r ≠ s → (g (R.sp p)).opn r = (R.sp p).opn r) :
    Core f { M with es := es' } (R.mapSp p g) := by
  have hl := fun i => mapSp_live (R := R) (p := p) hfree i
  have hx : ∀ i x', (R.mapSp p g).spots[i]? = some x' → x'.free = false → ∃ x, R.spots[i]? = some x ∧ x.free = false ∧ x' = if i = p then g x else x := by
    intro i x' h1 h2
    rw [mapSp_get] at h1
    cases hx : R.spots[i]? with
    | none => rw [hx] at h1; simp at h1
    | some y =>
      rw [hx] at h1; simp at h1; subst h1
      refine ⟨y, rfl, ?_, rfl⟩
      split at h2
      · rw [hfree] at h2; exact h2
      · exact h2
  have hsp : ∀ x, R.spots[p]? = some x → x = R.sp p := by intro x hx; rw [hp.sp.1] at hx; exact (Option.some.inj hx).symm
  refine ⟨h.nlen, by rw [hlen]; exact h.elen, h.f0, h.f1, (hl 0).2 h.l0, (hl 1).2 h.l1, ?_, fun i j hi hj => h.inj i j ((hl i).1 hi) ((hl j).1 hj), ?_, h.nz, hwf, ?_, ?_, ?_⟩
  · intro i x' h1 h2
    obtain ⟨x, h3, h4, rfl⟩ := hx i x' h1 h2
    obtain ⟨n, h5, h6⟩ := h.nd i x h3 h4
    refine ⟨n, h5, ?_⟩
    by_cases hip : i = p
    · subst hip; rw [if_pos rfl]; rw [hsp x h3] at h6 ⊢; exact hrel n h6
    · rw [if_neg hip]; exact h6
  · intro k n h1 h2
    obtain ⟨i, h3, h4⟩ := h.sur k n h1 h2
    exact ⟨i, (hl i).2 h3, h4⟩
  · intro e he hu
    rcases hown e he hu with h1 | ⟨h1, h2⟩
    · obtain ⟨i, x, h3, h4, h5, h6⟩ := h.own e h1 hu
      refine ⟨i, if i = p then g x else x, by rw [mapSp_get, h3]; rfl, ?_, h5, ?_⟩
      · split
        · rw [hfree]; exact h4
        · exact h4
      · unfold linksOf at *; split
        · rw [hleaf]; exact h6
        · exact h6
    · refine ⟨p, g (R.sp p), by rw [mapSp_get, hp.sp.1]; simp, by rw [hfree]; exact hp.sp.2, h1, ?_⟩
      rw [h2]; unfold linksOf at *; rw [hleaf]; exact hs
  · intro i x' r h1 h2
    obtain ⟨x, h3, h4, rfl⟩ := hx i x' h1 h2
    by_cases hip : i = p
    · subst hip
      rw [if_pos rfl]; have := hsp x h3; subst this
      by_cases hr : r = s
      · subst hr; exact hst1
      · rw [hst2 r hr]; exact (hst _ r (.inr hr)).trans (h.st i _ r h3 h4)
    · rw [if_neg hip]
      exact (hst _ r (.inl (fun e => hip (h.inj i p ⟨x, h3, h4⟩ hp (by omega))))).trans (h.st i x r h3 h4)
  · intro i x' r h1 h2
    obtain ⟨x, h3, h4, rfl⟩ := hx i x' h1 h2
    by_cases hip : i = p
    · subst hip
      rw [if_pos rfl]; have := hsp x h3; subst this
      by_cases hr : r = s
      · subst hr; exact hpd1
      · rw [hop2 r hr, (hpd _ r (.inr hr)).length_eq]; exact h.pd i _ r h3 h4
    · rw [if_neg hip, (hpd _ r (.inl (fun e => hip (h.inj i p ⟨x, h3, h4⟩ hp (by omega))))).length_eq]
      exact h.pd i x r h3 h4

/-- What other links' pending entries are. -/
def PdSame (es es' : List PEntry) (n : Int) (s : Bool) : Prop := ∀ (m : Int) (r : Bool) (d : Int), (m ≠ n ∨ r ≠ s) → pdOf es m r = [d] → pdOf es' m r = [d]
theorem PdSame.of {es es' : List PEntry} {n : Int} {s : Bool} (h : ∀ (m : Int) (r : Bool), (m ≠ n ∨ r ≠ s) → (pdOf es' m r).Perm (pdOf es m r)) : PdSame es es' n s := by
  intro m r d hm hd
  have := h m r hm
  rw [hd] at this
  exact perm_one this
theorem len_one {l : List Int} (h : l.length = 1) : ∃ d, l = [d] := by
  match l, h with
  | [d], _ => exact ⟨d, rfl⟩

theorem Core.pend (h : Core f M R) {p : Nat} (hp : R.live p) (s : Bool) (hs : b2i s < linksOf R.kind p (R.sp p)) (ho : (R.sp p).opn s = false) (hroom : 0 < M.room.2) (to : Int) :
    Core f (M.pend (f p) s to) (R.mapSp p fun x => { x with opn := upd x.opn s true }) ∧ pdOf (M.pend (f p) s to).es (f p) s = [to] ∧ PdSame M.es (M.pend (f p) s to).es (f p) s ∧ (M.pend (f p) s to).ns = M.ns := by
  have hfree : ∃ e ∈ M.es, e.used = false := by
    obtain ⟨e, h1, h2⟩ := count_pos (fun x : PEntry => !x.used) M.es (by unfold PMem.room at hroom; simpa using hroom)
    exact ⟨e, h1, by simpa using h2⟩
  obtain ⟨k, hk, he⟩ := pend_eq to h.ez hfree (h.hasLink hp hs)
  rw [he]
  have hpd0 : pdOf M.es (f p) s = [] := by
    have := h.pd p _ s hp.sp.1 hp.sp.2
    rw [ho] at this
    exact List.eq_nil_of_length_eq_zero this
  have hpd1 : pdOf (M.es.set k ⟨true, true, f p, s, to, 0⟩) (f p) s = [to] := by
    have := pdOf_new hk rfl (f p) s ⟨true, true, f p, s, to, 0⟩
    rw [hpd0, if_pos (by simp [isPd])] at this
    exact perm_one this
  have hpdo : ∀ (n : Int) r, (n ≠ (f p : Int) ∨ r ≠ s) → (pdOf (M.es.set k ⟨true, true, f p, s, to, 0⟩) n r).Perm (pdOf M.es n r) := by
    intro n r hn
    have := pdOf_new hk rfl n r ⟨true, true, f p, s, to, 0⟩
    rw [if_neg (by rw [isPd_iff]; simp only [true_and]; rintro ⟨e1, e2⟩; rcases hn with hn | hn; exact hn e1.symm; exact hn e2.symm)] at this
    exact this
  have hst : ∀ (n : Int) r, (stOf (M.es.set k ⟨true, true, f p, s, to, 0⟩) n r).Perm (stOf M.es n r) := by
    intro n r
    have := stOf_new hk rfl n r ⟨true, true, f p, s, to, 0⟩
    rw [if_neg (by rw [isSt_iff]; simp)] at this
    exact this
  refine ⟨?_, hpd1, PdSame.of hpdo, rfl⟩
  refine h.turnLink hp s hs (fun x => { x with opn := upd x.opn s true }) _ (fun _ => rfl) (fun _ => rfl) ?_ (by simp) (h.ez.set (by simp)) ?_ (fun n r _ => hst n r) hpdo ?_ ?_ (fun _ _ => rfl) ?_
  · intro n hn; exact ⟨hn.key, hn.value, hn.dead, hn.used, hn.holder, hn.links, hn.leads, hn.ret, hn.rat⟩
  · intro e he hu
    rcases mem_set he with rfl | he
    · exact .inr ⟨rfl, rfl⟩
    · exact .inl he
  · exact (hst _ s).trans (h.st p (R.sp p) s hp.sp.1 hp.sp.2)
  · rw [hpd1]; simp [upd_same]
  · intro r hr; exact upd_ne _ _ hr

theorem Core.unpend (h : Core f M R) {p : Nat} (hp : R.live p) (s : Bool) (hs : b2i s < linksOf R.kind p (R.sp p)) (ho : (R.sp p).opn s = true) :
    Core f (M.unpend (f p) s) (R.mapSp p fun x => { x with opn := upd x.opn s false }) ∧ PdSame M.es (M.unpend (f p) s).es (f p) s ∧ (M.unpend (f p) s).ns = M.ns := by
  obtain ⟨d, hd⟩ := len_one (by have := h.pd p _ s hp.sp.1 hp.sp.2; rw [ho] at this; exact this)
  obtain ⟨k, e, hk, hpe, he⟩ := unpend_eq hd
  rw [he]
  have hpe' := isPd_iff.1 hpe
  have hpdo : ∀ (n : Int) r, (n ≠ (f p : Int) ∨ r ≠ s) → (pdOf (M.es.set k PEntry.zero) n r).Perm (pdOf M.es n r) := by
    intro n r hn
    obtain ⟨q, h1, h2⟩ := pdOf_set hk n r
    have h3 := h2 PEntry.zero
    rw [isPd_zero] at h3
    have : isPd n r e = false := by
      cases hc : isPd n r e
      · rfl
      · have := isPd_iff.1 hc
        rcases hn with hn | hn
        · exact absurd (this.2.1.symm.trans hpe'.2.1) hn
        · exact absurd (this.2.2.symm.trans hpe'.2.2) hn
    rw [this] at h1
    simp at h1 h3
    exact h3.trans h1.symm
  have hpd1 : pdOf (M.es.set k PEntry.zero) (f p) s = [] := by
    obtain ⟨q, h1, h2⟩ := pdOf_set hk (f p) s
    have h3 := h2 PEntry.zero
    rw [isPd_zero] at h3
    rw [hpe, hd] at h1
    simp at h1 h3
    obtain ⟨_, rfl⟩ := h1
    exact List.perm_nil.1 h3
  have hst : ∀ (n : Int) r, (stOf (M.es.set k PEntry.zero) n r).Perm (stOf M.es n r) := by
    intro n r
    obtain ⟨q, h1, h2⟩ := stOf_set hk n r
    have h3 := h2 PEntry.zero
    rw [isSt_zero] at h3
    have : isSt n r e = false := by
      cases hc : isSt n r e
      · rfl
      · have := isSt_iff.1 hc
        rw [hpe'.1] at this; simp at this
    rw [this] at h1
    simp at h1 h3
    exact h3.trans h1.symm
  refine ⟨?_, PdSame.of hpdo, rfl⟩
  refine h.turnLink hp s hs (fun x => { x with opn := upd x.opn s false }) _ (fun _ => rfl) (fun _ => rfl) ?_ (by simp) (h.ez.set (fun _ => rfl)) ?_ (fun n r _ => hst n r) hpdo ?_ ?_ (fun _ _ => rfl) ?_
  · intro n hn; exact ⟨hn.key, hn.value, hn.dead, hn.used, hn.holder, hn.links, hn.leads, hn.ret, hn.rat⟩
  · intro e' he' hu
    rcases mem_set he' with rfl | he'
    · simp [PEntry.zero] at hu
    · exact .inl he'
  · exact (hst _ s).trans (h.st p (R.sp p) s hp.sp.1 hp.sp.2)
  · rw [hpd1]; simp [upd_same]
  · intro r hr; exact upd_ne _ _ hr

theorem Core.stamp (h : Core f M R) {p : Nat} (hp : R.live p) (s : Bool) (hs : b2i s < linksOf R.kind p (R.sp p)) (ho : (R.sp p).opn s = true) (c : Int) :
    Core f (M.stamp (f p) s c) (R.mapSp p fun x => { x with opn := upd x.opn s false, st := upd x.st s (x.st s ++ [c]) }) ∧ PdSame M.es (M.stamp (f p) s c).es (f p) s ∧ (M.stamp (f p) s c).ns = M.ns ∧
      pdOf (M.stamp (f p) s c).es (f p) s = [] := by
  obtain ⟨d, hd⟩ := len_one (by have := h.pd p _ s hp.sp.1 hp.sp.2; rw [ho] at this; exact this)
  obtain ⟨k, e, hk, hpe, hed, he⟩ := stamp_eq c hd
  rw [he]
  have hpe' := isPd_iff.1 hpe
  have hu := h.ez.pd (List.mem_of_getElem? hk) hpe'.1
  have hpdo : ∀ (n : Int) r, (n ≠ (f p : Int) ∨ r ≠ s) → (pdOf (M.es.set k { e with pending := false, stamp := c }) n r).Perm (pdOf M.es n r) := by
    intro n r hn
    obtain ⟨q, h1, h2⟩ := pdOf_set hk n r
    have h3 := h2 { e with pending := false, stamp := c }
    rw [if_neg (by rw [isPd_iff]; simp)] at h3
    have : isPd n r e = false := by
      cases hc : isPd n r e
      · rfl
      · have := isPd_iff.1 hc
        rcases hn with hn | hn
        · exact absurd (this.2.1.symm.trans hpe'.2.1) hn
        · exact absurd (this.2.2.symm.trans hpe'.2.2) hn
    rw [this] at h1
    simp at h1
    exact h3.trans h1.symm
  have hpd1 : pdOf (M.es.set k { e with pending := false, stamp := c }) (f p) s = [] := by
    obtain ⟨q, h1, h2⟩ := pdOf_set hk (f p) s
    have h3 := h2 { e with pending := false, stamp := c }
    rw [if_neg (by rw [isPd_iff]; simp)] at h3
    rw [hpe, hd] at h1
    simp at h1
    obtain ⟨_, rfl⟩ := h1
    exact List.perm_nil.1 h3
  have hst : ∀ (n : Int) r, (n ≠ (f p : Int) ∨ r ≠ s) → (stOf (M.es.set k { e with pending := false, stamp := c }) n r).Perm (stOf M.es n r) := by
    intro n r hn
    obtain ⟨q, h1, h2⟩ := stOf_set hk n r
    have h3 := h2 { e with pending := false, stamp := c }
    rw [if_neg (by rw [isSt_iff]; simp only [hpe'.2.1, hpe'.2.2]; rintro ⟨_, _, e1, e2⟩; rcases hn with hn | hn; exact hn e1.symm; exact hn e2.symm)] at h3
    have : isSt n r e = false := by
      cases hc : isSt n r e
      · rfl
      · have := isSt_iff.1 hc
        rw [hpe'.1] at this; simp at this
    rw [this] at h1
    simp at h1
    exact h3.trans h1.symm
  have hst1 : (stOf (M.es.set k { e with pending := false, stamp := c }) (f p) s).Perm ((R.sp p).st s ++ [c]) := by
    obtain ⟨q, h1, h2⟩ := stOf_set hk (f p) s
    have h3 := h2 { e with pending := false, stamp := c }
    rw [if_pos (by rw [isSt_iff]; exact ⟨hu, rfl, hpe'.2.1, hpe'.2.2⟩)] at h3
    have : isSt (f p) s e = false := by
      cases hc : isSt (f p) s e
      · rfl
      · have := isSt_iff.1 hc
        rw [hpe'.1] at this; simp at this
    rw [this] at h1
    simp at h1
    have h4 : q.Perm ((R.sp p).st s) := h1.symm.trans (h.st p _ s hp.sp.1 hp.sp.2)
    exact h3.trans ((h4.cons c).trans (List.perm_append_singleton _ _).symm)
  refine ⟨?_, PdSame.of hpdo, rfl, hpd1⟩
  refine h.turnLink hp s hs (fun x => { x with opn := upd x.opn s false, st := upd x.st s (x.st s ++ [c]) }) _ (fun _ => rfl) (fun _ => rfl) ?_ (by simp) (h.ez.set (by simp [hu])) ?_ hst hpdo ?_ ?_ ?_ ?_
  · intro n hn; exact ⟨hn.key, hn.value, hn.dead, hn.used, hn.holder, hn.links, hn.leads, hn.ret, hn.rat⟩
  · intro e' he' hu'
    rcases mem_set he' with rfl | he'
    · exact .inr ⟨hpe'.2.1, hpe'.2.2⟩
    · exact .inl he'
  · simp only [upd_same]; exact hst1
  · rw [hpd1]; simp [upd_same]
  · intro r hr; exact upd_ne _ _ hr
  · intro r hr; exact upd_ne _ _ hr
end
end Go.Proofs.YtfccelbmacjifaaGreat

set_option linter.unusedSimpArgs false
namespace Go.Proofs.YtfccelbmacjifaaGreat

section
variable {f : Nat → Nat} {M : PMem} {R : BSt}
/-- A place more. -/
def more (f : Nat → Nat) (n k : Nat) : Nat → Nat := fun j => if j = n then k else f j
theorem more_new (f : Nat → Nat) (n k : Nat) : more f n k n = k := by simp [more]
theorem more_old (f : Nat → Nat) {n j : Nat} (k : Nat) (h : j < n) : more f n k j = f j := by simp [more]; omega
theorem push_get (R : BSt) (y : BSpot) (i : Nat) : (R.push y).spots[i]? = if i < R.spots.length then R.spots[i]? else if i = R.spots.length then some y else none := by
  unfold BSt.push
  split
  · next h => exact List.getElem?_append_left h
  · next h =>
    split
    · next e => subst e; simp
    · next e => exact List.getElem?_eq_none (by simp; omega)
theorem push_live {y : BSpot} (hy : y.free = false) (i : Nat) : (R.push y).live i ↔ R.live i ∨ i = R.spots.length := by
  unfold BSt.live
  rw [push_get]
  constructor
  · rintro ⟨x, h1, h2⟩
    split at h1
    · exact .inl ⟨x, h1, h2⟩
    · split at h1
      · next e => exact .inr e
      · cases h1
  · rintro (h | h)
    · obtain ⟨x, h1, h2⟩ := h
      have := (List.getElem?_eq_some_iff.1 h1).1
      exact ⟨x, by rw [if_pos this]; exact h1, h2⟩
    · subst h; exact ⟨y, by simp, hy⟩

theorem stOf_none {es : List PEntry} {n : Int} (h : ∀ e ∈ es, e.used = true → e.src ≠ n) (s : Bool) : stOf es n s = [] := by
  unfold stOf
  rw [List.filter_eq_nil_iff.2]; rfl
  intro e he hc
  have := isSt_iff.1 hc
  exact h e he this.1 this.2.2.1
theorem pdOf_none {es : List PEntry} {n : Int} (hw : WfE es) (h : ∀ e ∈ es, e.used = true → e.src ≠ n) (s : Bool) : pdOf es n s = [] := by
  unfold pdOf
  rw [List.filter_eq_nil_iff.2]; rfl
  intro e he hc
  have := isPd_iff.1 hc
  exact h e he (hw.pd he this.1) this.2.1

/-- A spot more, without entries so far. -/
theorem Core.newSpot (h : Core f M R) {k : Nat} {z : PNode} (hk : M.ns[k]? = some z) (hz : z.used = false) (y : BSpot) (n : PNode)
    (hcl : ∀ i x s, R.spots[i]? = some x → x.free = false → b2i s < linksOf R.kind i x → x.now s < R.spots.length)
    (hyf : y.free = false) (hys : ∀ s, y.st s = []) (hyo : ∀ s, y.opn s = false)
    (hn : NodeRel (more f R.spots.length k) R.kind R.spots.length y n) :
    Core (more f R.spots.length k) { M with ns := M.ns.set k n } (R.push y) := by
  have hkl : k < M.ns.length := (List.getElem?_eq_some_iff.1 hk).1
  have hne : ∀ i, R.live i → f i ≠ k := by
    intro i hi e
    obtain ⟨m, h1, _, h2⟩ := h.node hi
    rw [e, hk] at h1; obtain rfl := Option.some.inj h1
    rw [h2.used] at hz; cases hz
  have hold : ∀ i, R.live i → more f R.spots.length k i = f i := fun i hi => more_old f k hi.lt
  have hl1 := h.l1.lt
  have hsrc : ∀ e ∈ M.es, e.used = true → e.src ≠ (k : Int) := by
    intro e he hu
    obtain ⟨i, x, h1, h2, h3, _⟩ := h.own e he hu
    rw [h3]
    have := hne i ⟨x, h1, h2⟩
    omega
  have hx : ∀ i x', (R.push y).spots[i]? = some x' → x'.free = false → (i < R.spots.length ∧ R.spots[i]? = some x') ∨ (i = R.spots.length ∧ x' = y) := by
    intro i x' h1 h2
    rw [push_get] at h1
    split at h1
    · next hi => exact .inl ⟨hi, h1⟩
    · split at h1
      · next hi => exact .inr ⟨hi, (Option.some.inj h1).symm⟩
      · cases h1
  refine ⟨by show ((M.ns.set k n).length : Int) = R.nodes + 2; rw [List.length_set]; exact h.nlen, h.elen, by rw [more_old f k (by omega)]; exact h.f0, by rw [more_old f k hl1]; exact h.f1, (push_live hyf 0).2 (.inl h.l0), (push_live hyf 1).2 (.inl h.l1), ?_, ?_, ?_, ?_, h.ez, ?_, ?_, ?_⟩
  · intro i x' h1 h2
    rcases hx i x' h1 h2 with ⟨h3, h4⟩ | ⟨rfl, rfl⟩
    · obtain ⟨m, h5, h6⟩ := h.nd i x' h4 h2
      have hlv : R.live i := ⟨x', h4, h2⟩
      refine ⟨m, ?_, h6.key, h6.value, h6.dead, h6.used, h6.holder, h6.links, ?_, h6.ret, h6.rat⟩
      · rw [hold i hlv, List.getElem?_set]
        have := hne i hlv
        rw [if_neg (by omega)]; exact h5
      · intro s hs
        rw [h6.leads s hs, more_old f k (hcl i x' s h4 h2 (by rw [← h6.links]; exact hs))]
    · exact ⟨n, by rw [more_new]; simp [hkl], hn⟩
  · intro i j hi hj e
    rcases (push_live hyf i).1 hi with hi | hi <;> rcases (push_live hyf j).1 hj with hj | hj
    · rw [hold i hi, hold j hj] at e; exact h.inj i j hi hj e
    · subst hj; rw [hold i hi, more_new] at e; exact absurd e (hne i hi)
    · subst hi; rw [hold j hj, more_new] at e; exact absurd e.symm (hne j hj)
    · omega
  · intro q m h1 h2
    have h1' : (M.ns.set k n)[q]? = some m := h1
    rw [List.getElem?_set] at h1'
    by_cases hq : k = q
    · exact ⟨R.spots.length, (push_live hyf _).2 (.inr rfl), by rw [more_new]; exact hq⟩
    · rw [if_neg hq] at h1'
      obtain ⟨i, h3, h4⟩ := h.sur q m h1' h2
      exact ⟨i, (push_live hyf _).2 (.inl h3), by rw [hold i h3]; exact h4⟩
  · intro m h1 h2
    rcases mem_set h1 with rfl | h1
    · rw [hn.used] at h2; cases h2
    · exact h.nz m h1 h2
  · intro e he hu
    obtain ⟨i, x, h1, h2, h3, h4⟩ := h.own e he hu
    have hlv : R.live i := ⟨x, h1, h2⟩
    exact ⟨i, x, by rw [push_get, if_pos hlv.lt]; exact h1, h2, by rw [hold i hlv]; exact h3, h4⟩
  · intro i x' s h1 h2
    rcases hx i x' h1 h2 with ⟨h3, h4⟩ | ⟨rfl, rfl⟩
    · rw [hold i ⟨x', h4, h2⟩]; exact h.st i x' s h4 h2
    · rw [more_new, stOf_none hsrc, hys]
  · intro i x' s h1 h2
    rcases hx i x' h1 h2 with ⟨h3, h4⟩ | ⟨rfl, rfl⟩
    · rw [hold i ⟨x', h4, h2⟩]; exact h.pd i x' s h4 h2
    · rw [more_new, pdOf_none h.ez hsrc, hyo]; rfl

/-- A new spot goes back at once. -/
theorem filter_off {p : PEntry → Bool} {n : Int} (hp : ∀ e, p e = true → ofNode n e = false) (hz : p PEntry.zero = false) : ∀ es : List PEntry, (es.map fun e => if ofNode n e then PEntry.zero else e).filter p = es.filter p
  | [] => rfl
  | e :: r => by
    have ih := filter_off hp hz r
    simp only [List.map_cons, List.filter_cons, ih]
    cases ho : ofNode n e
    · simp
    · have : p e = false := by
        cases hc : p e
        · rfl
        · rw [hp e hc] at ho; cases ho
      simp [hz, this]
theorem Core.freeSpot (h : Core f M R) {p : Nat} (hp : R.live p) (hp2 : 2 ≤ p) : Core f (M.free (f p)) (R.mapSp p fun x => { x with free := true }) ∧
    (∀ (n : Int) r, n ≠ (f p : Int) → pdOf (M.free (f p)).es n r = pdOf M.es n r) := by
  obtain ⟨n, hn, hnn, hrel⟩ := h.node hp
  have hn0 : (f p : Int) ≠ 0 := by
    intro e
    have := h.inj p 0 hp h.l0 (by rw [h.f0]; omega)
    omega
  have hn1 : (f p : Int) ≠ 1 := by
    intro e
    have := h.inj p 1 hp h.l1 (by rw [h.f1]; omega)
    omega
  have e : M.free (f p) = { ns := M.ns.set (f p) PNode.zero, es := M.es.map fun e => if ofNode (f p) e then PEntry.zero else e } := by
    unfold PMem.free; rw [hasNode_of hn]
    have a : ((f p : Int) != 0) = true := by simpa using hn0
    have b : ((f p : Int) != 1) = true := by simpa using hn1
    rw [a, b]; simp
  have hpl : f p < M.ns.length := (List.getElem?_eq_some_iff.1 hn).1
  have hl : ∀ i, (R.mapSp p fun x => { x with free := true }).live i ↔ R.live i ∧ i ≠ p := by
    intro i
    unfold BSt.live
    rw [mapSp_get]
    constructor
    · rintro ⟨x, h1, h2⟩
      cases hx : R.spots[i]? with
      | none => rw [hx] at h1; simp at h1
      | some y =>
        rw [hx] at h1; simp at h1; subst h1
        by_cases hip : i = p
        · subst hip; simp at h2
        · simp [hip] at h2; exact ⟨⟨y, rfl, h2⟩, hip⟩
    · rintro ⟨⟨x, h1, h2⟩, hip⟩
      exact ⟨x, by simp [h1, hip], h2⟩
  have hx : ∀ i x', (R.mapSp p fun x => { x with free := true }).spots[i]? = some x' → x'.free = false → R.spots[i]? = some x' ∧ i ≠ p := by
    intro i x' h1 h2
    rw [mapSp_get] at h1
    cases hx : R.spots[i]? with
    | none => rw [hx] at h1; simp at h1
    | some y =>
      rw [hx] at h1; simp at h1; subst h1
      by_cases hip : i = p
      · subst hip; simp at h2
      · simp [hip]
  have hne : ∀ i, R.live i → i ≠ p → f i ≠ f p := fun i hi hip e => hip (h.inj i p hi hp e)
  have hstE : ∀ (n : Int) r, n ≠ (f p : Int) → stOf (M.free (f p)).es n r = stOf M.es n r := by
    intro n r hnp
    rw [e]; unfold stOf
    simp only
    rw [filter_off (fun e he => ?_) (isSt_zero n r)]
    have := isSt_iff.1 he
    simp [ofNode, this.2.2.1, hnp]
  have hpdE : ∀ (n : Int) r, n ≠ (f p : Int) → pdOf (M.free (f p)).es n r = pdOf M.es n r := by
    intro n r hnp
    rw [e]; unfold pdOf
    simp only
    rw [filter_off (fun e he => ?_) (isPd_zero n r)]
    have := isPd_iff.1 he
    simp [ofNode, this.2.1, hnp]
  refine ⟨⟨by rw [e]; show ((M.ns.set (f p) PNode.zero).length : Int) = R.nodes + 2; rw [List.length_set]; exact h.nlen, by rw [e]; show ((M.es.map _).length : Int) = R.entries; rw [List.length_map]; exact h.elen, h.f0, h.f1, (hl 0).2 ⟨h.l0, by omega⟩, (hl 1).2 ⟨h.l1, by omega⟩, ?_, fun i j hi hj => h.inj i j ((hl i).1 hi).1 ((hl j).1 hj).1, ?_, ?_, ?_, ?_, ?_, ?_⟩, hpdE⟩
  · intro i x' h1 h2
    obtain ⟨h3, h4⟩ := hx i x' h1 h2
    obtain ⟨m, h5, h6⟩ := h.nd i x' h3 h2
    refine ⟨m, ?_, h6⟩
    rw [e]; simp only
    rw [List.getElem?_set, if_neg (fun e => hne i ⟨x', h3, h2⟩ h4 e.symm)]; exact h5
  · intro k m h1 h2
    rw [e] at h1; simp only at h1
    rw [List.getElem?_set] at h1
    by_cases hq : f p = k
    · rw [if_pos hq] at h1
      rw [if_pos hpl] at h1
      obtain rfl := Option.some.inj h1; simp [PNode.zero] at h2
    · rw [if_neg hq] at h1
      obtain ⟨i, h3, h4⟩ := h.sur k m h1 h2
      exact ⟨i, (hl i).2 ⟨h3, by rintro rfl; exact hq h4⟩, h4⟩
  · intro m h1 h2
    rw [e] at h1; simp only at h1
    rcases mem_set h1 with rfl | h1
    · rfl
    · exact h.nz m h1 h2
  · intro x h1 h2
    rw [e] at h1; simp only at h1
    obtain ⟨y, h3, rfl⟩ := List.mem_map.1 h1
    split
    · rfl
    · next hc => rw [if_neg hc] at h2; exact h.ez y h3 h2
  · intro x h1 h2
    rw [e] at h1; simp only at h1
    obtain ⟨y, h3, rfl⟩ := List.mem_map.1 h1
    split at h2
    · simp [PEntry.zero] at h2
    · next hc =>
      rw [if_neg hc]
      obtain ⟨i, x, h4, h5, h6, h7⟩ := h.own y h3 h2
      have hip : i ≠ p := by
        rintro rfl
        apply hc
        simp [ofNode, h2, h6]
      exact ⟨i, x, by rw [mapSp_get, h4]; simp [hip], h5, h6, h7⟩
  · intro i x' s h1 h2
    obtain ⟨h3, h4⟩ := hx i x' h1 h2
    rw [hstE _ _ (by have := hne i ⟨x', h3, h2⟩ h4; omega)]; exact h.st i x' s h3 h2
  · intro i x' s h1 h2
    obtain ⟨h3, h4⟩ := hx i x' h1 h2
    rw [hpdE _ _ (by have := hne i ⟨x', h3, h2⟩ h4; omega)]; exact h.pd i x' s h3 h2

/-! ### A new node's entries get their stamp -/
def stampSide (s : Bool) (c : Int) (x : BSpot) : BSpot := if x.opn s then { x with opn := upd x.opn s false, st := upd x.st s (x.st s ++ [c]) } else x
theorem mapSp_id (R : BSt) (p : Nat) (g : BSpot → BSpot) (h : ∀ x, R.spots[p]? = some x → g x = x) : R.mapSp p g = R := by
  unfold BSt.mapSp
  have : R.spots.modify p g = R.spots := by
    apply List.ext_getElem?
    intro i
    rw [modify_get]
    cases hx : R.spots[i]? with
    | none => rfl
    | some x =>
      by_cases hip : i = p
      · subst hip; simp [h x hx]
      · simp [hip]
  rw [this]
theorem mapSp_congr (R : BSt) (p : Nat) (g g' : BSpot → BSpot) (h : ∀ x, R.spots[p]? = some x → g x = g' x) : R.mapSp p g = R.mapSp p g' := by
  unfold BSt.mapSp
  have : R.spots.modify p g = R.spots.modify p g' := by
    apply List.ext_getElem?
    intro i
    rw [modify_get, modify_get]
    cases hx : R.spots[i]? with
    | none => rfl
    | some x =>
      by_cases hip : i = p
      · subst hip; simp [h x hx]
      · simp [hip]
  rw [this]
theorem mapSp_comp (R : BSt) (p : Nat) (g g' : BSpot → BSpot) : (R.mapSp p g).mapSp p g' = R.mapSp p (fun x => g' (g x)) := by
  unfold BSt.mapSp
  have : (R.spots.modify p g).modify p g' = R.spots.modify p (fun x => g' (g x)) := by
    apply List.ext_getElem?
    intro i
    simp only [modify_get]
    cases hx : R.spots[i]? with
    | none => rfl
    | some x => by_cases hip : i = p <;> simp [hip]
  simp [this]
theorem Core.stampSide (h : Core f M R) {p : Nat} (hp : R.live p) (s : Bool) (hs : (R.sp p).opn s = true → b2i s < linksOf R.kind p (R.sp p)) (c : Int) :
    Core f (M.stamp (f p) s c) (R.mapSp p (stampSide s c)) ∧ PdSame M.es (M.stamp (f p) s c).es (f p) s ∧ (M.stamp (f p) s c).ns = M.ns := by
  have hsp : ∀ x, R.spots[p]? = some x → x = R.sp p := by intro x hx; rw [hp.sp.1] at hx; exact (Option.some.inj hx).symm
  cases ho : (R.sp p).opn s
  · have hpd := h.pd p _ s hp.sp.1 hp.sp.2
    rw [ho] at hpd
    rw [stamp_none c (List.eq_nil_of_length_eq_zero hpd), mapSp_id R p _ (fun x hx => by rw [hsp x hx, Proofs.YtfccelbmacjifaaGreat.stampSide, ho]; simp)]
    exact ⟨h, fun _ _ _ _ h => h, rfl⟩
  · obtain ⟨h1, h2, h3, _⟩ := h.stamp hp s (hs ho) ho c
    refine ⟨?_, h2, h3⟩
    rw [mapSp_congr R p (Proofs.YtfccelbmacjifaaGreat.stampSide s c) (fun x => { x with opn := upd x.opn s false, st := upd x.st s (x.st s ++ [c]) }) (fun x hx => by rw [hsp x hx, Proofs.YtfccelbmacjifaaGreat.stampSide, ho]; simp)]
    exact h1
theorem Core.stampNew (h : Core f M R) {p : Nat} (hp : R.live p) (hs : ∀ s, (R.sp p).opn s = true → b2i s < linksOf R.kind p (R.sp p)) (hst : ∀ s, (R.sp p).opn s = true → (R.sp p).st s = []) (c : Int) :
    Core f (M.stampNew (f p) c) (R.mapSp p (stampOf c)) ∧ (∀ (n : Int) r d, n ≠ (f p : Int) → pdOf M.es n r = [d] → pdOf (M.stampNew (f p) c).es n r = [d]) ∧ (M.stampNew (f p) c).ns = M.ns := by
  obtain ⟨h1, h2, h3⟩ := h.stampSide hp false (hs false) c
  have hp1 : (R.mapSp p (Proofs.YtfccelbmacjifaaGreat.stampSide false c)).live p := (mapSp_live (fun x => by unfold Proofs.YtfccelbmacjifaaGreat.stampSide; split <;> rfl) p).2 hp
  have hsp1 : (R.mapSp p (Proofs.YtfccelbmacjifaaGreat.stampSide false c)).sp p = Proofs.YtfccelbmacjifaaGreat.stampSide false c (R.sp p) := by
    unfold BSt.sp; rw [mapSp_get, hp.sp.1]; simp
  obtain ⟨h4, h5, h6⟩ := h1.stampSide hp1 true (by
    rw [hsp1]; intro ho
    have : (R.sp p).opn true = true := by
      unfold Proofs.YtfccelbmacjifaaGreat.stampSide at ho; split at ho
      · simpa [upd] using ho
      · exact ho
    have := hs true this
    have e : linksOf (R.mapSp p (Proofs.YtfccelbmacjifaaGreat.stampSide false c)).kind p (Proofs.YtfccelbmacjifaaGreat.stampSide false c (R.sp p)) = linksOf R.kind p (R.sp p) := by
      unfold linksOf Proofs.YtfccelbmacjifaaGreat.stampSide; split <;> rfl
    rw [e]; exact this) c
  refine ⟨?_, ?_, by unfold PMem.stampNew; rw [h6, h3]⟩
  · rw [mapSp_comp] at h4
    have hsp : ∀ x, R.spots[p]? = some x → x = R.sp p := by intro x hx; rw [hp.sp.1] at hx; exact (Option.some.inj hx).symm
    have e : R.mapSp p (stampOf c) = (R.mapSp p fun x => Proofs.YtfccelbmacjifaaGreat.stampSide true c (Proofs.YtfccelbmacjifaaGreat.stampSide false c x)).mapSp p fun x => { x with id := c } := by
      rw [mapSp_comp]
      apply mapSp_congr
      intro x hx
      have := hsp x hx
      subst this
      have a := hst false
      have b := hst true
      unfold stampOf Proofs.YtfccelbmacjifaaGreat.stampSide
      cases h7 : (R.sp p).opn false <;> cases h8 : (R.sp p).opn true <;> simp [h7, h8, upd] at a b ⊢
      all_goals (refine ⟨funext fun r => ?_, funext fun r => ?_⟩ <;> cases r <;> simp [h7, h8, a, b, upd])
    rw [e]
    refine h4.turnNodes (fun i x => if i = p then { x with id := c } else x) (fun _ n => n) _ _ rfl rfl rfl (fun i => mapSp_get _ p i _) (fun k => by unfold PMem.stampNew; cases ((M.stamp (f p) false c).stamp (f p) true c).ns[k]? <;> rfl) rfl ?_ ?_ ?_ ?_ (fun _ _ => rfl) (fun _ => rfl) ?_
    · intro i x; split <;> rfl
    · intro i x; split <;> rfl
    · intro i x; split <;> rfl
    · intro i x; split <;> rfl
    · intro i x n _ _ hn
      split
      · exact ⟨hn.key, hn.value, hn.dead, hn.used, hn.holder, hn.links, hn.leads, hn.ret, hn.rat⟩
      · exact hn
  · intro n r d hn hd
    exact h5 n r d (.inl hn) (h2 n r d (.inl hn) hd)
end
end Go.Proofs.YtfccelbmacjifaaGreat

set_option linter.unusedSimpArgs false
namespace Go.Proofs.YtfccelbmacjifaaGreat
/-! ### What holds of the document's list while it is updated (no reads, no sweep) -/
/-- Outside the pools, and not a node that is only being prepared. -/
def Pub (R : BSt) (p : Nat) : Prop := R.live p ∧ ∀ (i : Nat) w, R.ts[i]? = some w → w.busy = true → w.at_ = 8 → p ∉ w.new
/-- An update under way. -/
structure ThU (R : BSt) (w : BThread) : Prop where
  kd : w.okind = 1 ∨ w.okind = 2
  key : 0 ≤ w.okey ∧ w.okey ≤ 1099511627776
  at1 : 1 ≤ w.at_ ∧ w.at_ ≤ 13
  bx : w.x < R.spots.length
  bc : w.c < R.spots.length
  bs : w.src < R.spots.length
  bw : ∀ p ∈ w.want, p < R.spots.length
  bn : ∀ p ∈ w.new, p < R.spots.length
  xs : w.xs = false
  sd : w.side = false
  hw : w.have_ ≤ w.want.length
  wl : w.want.length ≤ 2
  nl : w.new.length ≤ 1
  h4 : w.at_ ≤ 4 → w.have_ = 0
  h5 : w.at_ = 5 → w.have_ < w.want.length
  h6 : 6 ≤ w.at_ → w.at_ ≤ 12 → w.have_ = w.want.length
  h13 : w.at_ = 13 → w.have_ = 0
  xl : 4 ≤ w.at_ → w.at_ ≤ 12 → Pub R w.x ∧ w.x ≠ 1 ∧ (w.x = 0 ∨ (R.sp w.x).key < w.okey)
  cl : 5 ≤ w.at_ → w.at_ ≤ 12 → Pub R w.c ∧ w.c ≠ 0 ∧ w.okey ≤ (R.sp w.c).key ∧ w.want = (if w.okind = 2 ∧ (R.sp w.c).key = w.okey then [w.x, w.c] else [w.x])
  k7 : 7 ≤ w.at_ → w.at_ ≤ 11 → ((R.sp w.c).key = w.okey ↔ w.okind = 2)
  n7 : w.at_ ≤ 7 → w.new = []
  s8 : 8 ≤ w.at_ → w.at_ ≤ 11 → w.src = w.x ∧ (R.sp w.x).opn false = true ∧ w.dst ≠ 0
  d8 : 8 ≤ w.at_ → w.at_ ≤ 11 → (w.okind = 2 ∨ 9 ≤ w.at_) → Pub R w.dst
  n8 : w.at_ = 8 → if w.okind = 1 then w.new = [w.dst] ∧ R.live w.dst ∧ 2 ≤ w.dst else w.new = []
  r9 : w.at_ = 9 → w.okind = 2
  an : w.at_ ≤ 8 → w.ans = {}
  did : 9 ≤ w.at_ → w.at_ ≤ 11 → w.ans.did = true
  sp : w.ans.spans = []
structure InvU (R : BSt) : Prop where
  kind : R.kind = 0
  thl : R.threads = R.ts.length
  th8 : 1 ≤ R.ts.length ∧ R.ts.length ≤ 8
  clk : 0 ≤ R.clock ∧ R.clock ≤ R.limit
  lim : R.limit ≤ 1099511627776
  s0 : Pub R 0
  s1 : Pub R 1
  k1 : (R.sp 1).key = keyEnd
  lf : ∀ (i : Nat) x, R.spots[i]? = some x → x.leaf = decide (i = 1)
  nxt : ∀ (i : Nat), R.live i → i ≠ 1 → Pub R ((R.sp i).now false) ∧ (R.sp i).now false ≠ 0
  nowb : ∀ k, k < R.spots.length → (R.sp k).now false < R.spots.length
  own0 : ∀ (p : Nat) x, R.spots[p]? = some x → x.owner = -1 ∨ ∃ (i : Nat) (w : BThread), R.ts[i]? = some w ∧ x.owner = i ∧ p ∈ w.want.take w.have_
  own1 : ∀ (i : Nat) (w : BThread) (p : Nat), R.ts[i]? = some w → p ∈ w.want.take w.have_ → (R.sp p).owner = i
  opn : ∀ (p : Nat) (x : BSpot) (s : Bool), R.spots[p]? = some x → x.free = false → x.opn s = true → s = false ∧ ∃ (i : Nat) (w : BThread), R.ts[i]? = some w ∧ w.busy = true ∧ ((8 ≤ w.at_ ∧ w.at_ ≤ 11 ∧ w.src = p) ∨ (w.at_ = 8 ∧ p ∈ w.new))
  nst : ∀ (i : Nat) (w : BThread) (p : Nat), R.ts[i]? = some w → w.busy = true → w.at_ = 8 → p ∈ w.new → (R.sp p).opn false = true ∧ (R.sp p).st false = []
  uniq : ∀ (i j : Nat) w v p, R.ts[i]? = some w → R.ts[j]? = some v → w.busy = true → v.busy = true → w.at_ = 8 → v.at_ = 8 → p ∈ w.new → p ∈ v.new → i = j
  idle : ∀ (i : Nat) w, R.ts[i]? = some w → w.busy = false → w.have_ = 0
  lst : ∀ (i : Nat) w, R.ts[i]? = some w → w.last.spans = []
  th : ∀ (i : Nat) w, R.ts[i]? = some w → w.busy = true → ThU R w

section
variable {R R' : BSt}
theorem sp_of {i : Nat} {x : BSpot} (h : R.spots[i]? = some x) : R.sp i = x := by simp [BSt.sp, h]
/-- What other threads know stands. -/
theorem ThU.mono {w : BThread} (h : ThU R w) (hl : R.spots.length ≤ R'.spots.length) (hp : ∀ p, Pub R p → Pub R' p) (hk : ∀ p, p < R.spots.length → (R'.sp p).key = (R.sp p).key)
    (ho : 8 ≤ w.at_ → w.at_ ≤ 11 → (R'.sp w.x).opn false = true) (hn : w.at_ = 8 → ∀ p ∈ w.new, R.live p → R'.live p) : ThU R' w := by
  refine ⟨h.kd, h.key, h.at1, Nat.lt_of_lt_of_le h.bx hl, Nat.lt_of_lt_of_le h.bc hl, Nat.lt_of_lt_of_le h.bs hl, fun p hq => Nat.lt_of_lt_of_le (h.bw p hq) hl, fun p hq => Nat.lt_of_lt_of_le (h.bn p hq) hl, h.xs, h.sd, h.hw, h.wl, h.nl, h.h4, h.h5, h.h6, h.h13, ?_, ?_, ?_, h.n7, ?_, ?_, ?_, h.r9, h.an, h.did, h.sp⟩
  · intro a b; obtain ⟨h1, h2, h3⟩ := h.xl a b; exact ⟨hp _ h1, h2, by rw [hk _ h.bx]; exact h3⟩
  · intro a b; obtain ⟨h1, h2, h3, h4⟩ := h.cl a b; exact ⟨hp _ h1, h2, by rw [hk _ h.bc]; exact h3, by rw [hk _ h.bc]; exact h4⟩
  · intro a b; rw [hk _ h.bc]; exact h.k7 a b
  · intro a b; obtain ⟨h1, h2, h3⟩ := h.s8 a b; exact ⟨h1, ho a b, h3⟩
  · intro a b c; exact hp _ (h.d8 a b c)
  · intro a
    have := h.n8 a
    split at this
    · next hk1 => rw [if_pos hk1]; exact ⟨this.1, hn a _ (by rw [this.1]; simp) this.2.1, this.2.2⟩
    · next hk1 => rw [if_neg hk1]; exact this

theorem setTh_get (R : BSt) {i j : Nat} {w : BThread} (hi : i < R.ts.length) : (R.setTh i w).ts[j]? = if i = j then some w else R.ts[j]? := by
  unfold BSt.setTh
  simp only [List.getElem?_set]
  by_cases h : i = j
  · subst h; simp [hi]
  · simp [h]
theorem setTh_sp (R : BSt) (i : Nat) (w : BThread) (p : Nat) : (R.setTh i w).sp p = R.sp p := rfl
theorem setTh_live (R : BSt) (i : Nat) (w : BThread) (p : Nat) : (R.setTh i w).live p ↔ R.live p := Iff.rfl

/-- Only a thread has turned, and neither its locks nor what it prepares. -/
theorem InvU.setTh (h : InvU R) {i : Nat} {w w' : BThread} (hw : R.ts[i]? = some w) (hlock : w'.want.take w'.have_ = w.want.take w.have_)
    (hopn : ∀ p, w.busy = true → (8 ≤ w.at_ ∧ w.at_ ≤ 11 ∧ w.src = p) ∨ (w.at_ = 8 ∧ p ∈ w.new) → w'.busy = true ∧ ((8 ≤ w'.at_ ∧ w'.at_ ≤ 11 ∧ w'.src = p) ∨ (w'.at_ = 8 ∧ p ∈ w'.new)))
    (h8 : w'.busy = true → w'.at_ = 8 → w.busy = true ∧ w.at_ = 8 ∧ w'.new = w.new)
    (hidle : w'.busy = false → w'.have_ = 0) (hlast : w'.last.spans = []) (hth : w'.busy = true → (∀ p, Pub R p → Pub (R.setTh i w') p) → ThU (R.setTh i w') w') : InvU (R.setTh i w') := by
  have hi := (List.getElem?_eq_some_iff.1 hw).1
  have hg : ∀ j, (R.setTh i w').ts[j]? = if i = j then some w' else R.ts[j]? := fun j => setTh_get R hi
  have hpub : ∀ p, Pub R p → Pub (R.setTh i w') p := by
    rintro p ⟨h1, h2⟩
    refine ⟨h1, ?_⟩
    intro j v hv hb ha
    rw [hg] at hv
    split at hv
    · obtain rfl := Option.some.inj hv
      obtain ⟨q1, q2, q3⟩ := h8 hb ha
      rw [q3]; exact h2 i w hw q1 q2
    · exact h2 j v hv hb ha
  refine ⟨h.kind, by rw [show (R.setTh i w').threads = R.threads from rfl, h.thl]; simp [BSt.setTh], by simpa [BSt.setTh] using h.th8, h.clk, h.lim, hpub _ h.s0, hpub _ h.s1, h.k1, h.lf, fun j hj hj1 => ⟨hpub _ (h.nxt j hj hj1).1, (h.nxt j hj hj1).2⟩, h.nowb, ?_, ?_, ?_, ?_, ?_, ?_, ?_, ?_⟩
  · intro p x hx
    rcases h.own0 p x hx with h1 | ⟨j, v, hv, h1, h2⟩
    · exact .inl h1
    · right
      by_cases hij : i = j
      · subst hij
        rw [hw] at hv; obtain rfl := Option.some.inj hv
        exact ⟨i, w', by rw [hg, if_pos rfl], h1, by rw [hlock]; exact h2⟩
      · exact ⟨j, v, by rw [hg, if_neg hij]; exact hv, h1, h2⟩
  · intro j v p hv hp
    rw [hg] at hv
    split at hv
    · next e => subst e; obtain rfl := Option.some.inj hv; rw [hlock] at hp; exact h.own1 i w p hw hp
    · exact h.own1 j v p hv hp
  · intro p x s hx hxf ho
    obtain ⟨h1, j, v, hv, hb, hor⟩ := h.opn p x s hx hxf ho
    refine ⟨h1, ?_⟩
    by_cases hij : i = j
    · subst hij
      rw [hw] at hv; obtain rfl := Option.some.inj hv
      obtain ⟨q1, q2⟩ := hopn p hb hor
      exact ⟨i, w', by rw [hg, if_pos rfl], q1, q2⟩
    · exact ⟨j, v, by rw [hg, if_neg hij]; exact hv, hb, hor⟩
  · intro j v p hv hb ha hp
    rw [hg] at hv
    split at hv
    · obtain rfl := Option.some.inj hv
      obtain ⟨q1, q2, q3⟩ := h8 hb ha
      rw [q3] at hp
      exact h.nst i w p hw q1 q2 hp
    · exact h.nst j v p hv hb ha hp
  · intro a c u v p hu hv hbu hbv hau hav hpu hpv
    rw [hg] at hu hv
    have key : ∀ (d : Nat) (y : BThread), (if i = d then some w' else R.ts[d]?) = some y → y.busy = true → y.at_ = 8 → p ∈ y.new → ∃ y', R.ts[d]? = some y' ∧ y'.busy = true ∧ y'.at_ = 8 ∧ p ∈ y'.new := by
      intro d y hy hb ha hp
      split at hy
      · next e =>
        subst e
        obtain rfl := Option.some.inj hy
        obtain ⟨q1, q2, q3⟩ := h8 hb ha
        exact ⟨w, hw, q1, q2, by rw [← q3]; exact hp⟩
      · exact ⟨y, hy, hb, ha, hp⟩
    obtain ⟨y1, a1, a2, a3, a4⟩ := key a u hu hbu hau hpu
    obtain ⟨y2, b1, b2, b3, b4⟩ := key c v hv hbv hav hpv
    exact h.uniq a c y1 y2 p a1 b1 a2 b2 a3 b3 a4 b4
  · intro j v hv hb
    rw [hg] at hv
    split at hv
    · obtain rfl := Option.some.inj hv; exact hidle hb
    · exact h.idle j v hv hb
  · intro j v hv
    rw [hg] at hv
    split at hv
    · obtain rfl := Option.some.inj hv; exact hlast
    · exact h.lst j v hv
  · intro j v hv hb
    rw [hg] at hv
    split at hv
    · obtain rfl := Option.some.inj hv; exact hth hb hpub
    · exact (h.th j v hv hb).mono (Nat.le_refl _) hpub (fun _ _ => rfl) (fun a b => ((h.th j v hv hb).s8 a b).2.1) (fun _ _ _ hl => hl)
end
end Go.Proofs.YtfccelbmacjifaaGreat

