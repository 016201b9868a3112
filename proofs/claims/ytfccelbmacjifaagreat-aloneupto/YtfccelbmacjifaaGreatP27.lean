import Derived.Test.YtfccelbmacjifaaGreatP26
import Derived.Test.YtfccelbmacjifaaGreatP22
set_option linter.unusedSimpArgs false
namespace Go.Proofs.YtfccelbmacjifaaGreat
section
variable {N E L : Int} {P : PSt} {ch : List Spot3} {n e c : Int} {i : Nat} {t : PThread}
theorem QM.srcs {M : PMem} (h : QM M c ch) : ∀ en ∈ M.es, en.used = true → ∃ (x : Nat) (nd : PNode), en.src = x ∧ M.ns[x]? = some nd ∧ nd.used = true := by
  intro en he hu
  obtain ⟨_, _, _, x, nd, p4, _, p6, p7⟩ := h.ents en he hu
  exact ⟨x, nd, p4, p6, p7⟩
set_option maxHeartbeats 1000000 in
/-- An Insert of a key that is not there. -/
theorem QS.insNew (h : QS N E L P ch n e c) (_hN : 0 ≤ N) (ht : P.ts[i]? = some t) (ky va : Int) (sp : List (Int × Int)) (hk : 0 ≤ ky ∧ ky ≤ 1099511627776) {a b : List Spot3} (hab : ch = a ++ b) (ha : ∀ q ∈ a, q.2.1 < ky) (hb : ∀ q ∈ b, ky < q.2.1) : Asked N E L P (ch.map (·.2)) n e c i t 1 ky va sp := by
  have hi := (List.getElem?_eq_some_iff.1 ht).1
  have hf := h.mem.few
  have hl := h.len
  have hch : ch.length = a.length + b.length := by rw [hab]; simp
  obtain ⟨k', s1, k1, k2, k3, k4, k5, k6, k7, k8⟩ := h.walk (t := t) hi 1 ky va sp (.inl rfl) hk.2 hab ha (fun q hq => by have := hb q hq; omega)
  have hq := h.mem
  rw [hab] at hq
  obtain ⟨nb, b1, b2, b3, b4, b5, b6⟩ := hq.headNode
  have hgt := hq.headGt hk.2 hb
  obtain ⟨v1, v2, v3⟩ := sheet_miss ha hb
  rw [← hab] at v1 v2 v3
  have hu : shUpd (ch.map (·.2)) 1 ky = true := by unfold shUpd; rw [v1]; rfl
  have hA : shAns (ch.map (·.2)) 1 ky sp = { did := true, value := 0 } := by unfold shAns; rw [hu]; rfl
  obtain ⟨nd, l1, l2, l3, l4, l5, l6, l7, l8, l9⟩ := hq.live _ (mem_mid a b)
  simp only at l1 l7 l8 l9
  have hbk : (nb.key == k'.key) = (k'.kind == 2) := by
    have h1 : nb.key ≠ ky := by omega
    rw [k1, k2]
    simpa using h1
  have hroom := h.room
  have hclk := h.clk
  have hlim := h.lim
  by_cases hfull : n < 1 ∨ e < 2
  · have her : spendErr 0 L 1 n e c = 7 := by unfold spendErr spendN spendE; rw [if_pos (by simpa using hfull)]
    obtain ⟨m, lk, M1, g, hm3, hL, s2⟩ := run_pre (P := P) (t := t) (M := P.mem) (c := c) (sl := 2) (k := k') hi h.kind (by rw [k1]; exact .inl rfl) k4 k5 k7 k8 l1 l2 l3 l5 l6 l9 b1 b2 b3 b4 b6 hbk
    have s3 := run_nofit (P := P) (t := t) (M := P.mem) (M1 := M1) (c := c) (sl := 2) (k := { k' with locks := lk, next := 7 }) hi (.inl k1) rfl hL h.mem.hold (by
      have hnd : (st P i t M1 c 2 { k' with locks := lk, next := 7 }).needs k'.kind = (1, 2) := by
        unfold PSt.needs
        rw [k1, if_neg (by omega), if_neg (by show ¬ P.kind = 1; rw [h.kind]; omega)]
      show P.mem.room.1 < ((st P i t M1 c 2 { k' with locks := lk, next := 7 }).needs k'.kind).1 ∨ P.mem.room.2 < ((st P i t M1 c 2 { k' with locks := lk, next := 7 }).needs k'.kind).2
      rw [hnd, hroom.1, hroom.2]; exact hfull)
    have hrun := (s1.trans s2).trans s3
    refine h.stays ht hrun rfl (by omega) h.mem rfl ⟨rfl, rfl⟩ ?_ (by simp [doneOf, her])
    show ({ err := 7 } : BAns) = _
    unfold wantOf
    rw [hu, her]; rfl
  · by_cases hcl : c = L
    · have her : spendErr 0 L 1 n e c = 8 := by unfold spendErr spendN spendE; rw [if_neg (by simpa using hfull), if_pos hcl]
      obtain ⟨m, lk, M1, g, hm3, hL, s2⟩ := run_pre (P := P) (t := t) (M := P.mem) (c := c) (sl := 2) (k := k') hi h.kind (by rw [k1]; exact .inl rfl) k4 k5 k7 k8 l1 l2 l3 l5 l6 l9 b1 b2 b3 b4 b6 hbk
      obtain ⟨f, q1, q2, nf, e1, e2, M', k2', hnf, hfu, he1, hu1, he2, hu2, hqq, s3, k13, kans, ges, gns⟩ := run_clock1 (P := P) (t := t) (M := P.mem) (M1 := M1) (c := c) (sl := 2) (k := { k' with locks := lk, next := 7 }) hi h.kind k1 rfl k6 hL h.mem.hold h.mem.calm k7 k8 l1 l6 l2 h.mem.srcs
        (by obtain ⟨na, a1, a2, _⟩ := h.mem.live _ (mem_edges_self anchor3 ch); exact ⟨na, a1, a2⟩) (by obtain ⟨ne, z1, z2, _⟩ := h.mem.end_; exact ⟨ne, z1, z2⟩) (by rw [hroom.1]; omega) (by rw [hroom.2]; omega) (by rw [hlim]; omega)
      obtain ⟨hQ, hR⟩ := h.mem.wiped (M' := M') (fun j => by
        rw [ges]
        by_cases hj : q1 = j ∨ q2 = j
        · rw [if_pos hj]
          right
          rcases hj with rfl | rfl
          · exact ⟨rfl, e1, he1, hu1⟩
          · exact ⟨rfl, e2, he2, hu2⟩
        · rw [if_neg hj]; exact .inl rfl) (fun j => by
        rw [gns]
        by_cases hj : f = j
        · rw [if_pos hj]; subst hj; exact .inr ⟨rfl, nf, hnf, hfu⟩
        · rw [if_neg hj]; exact .inl rfl)
      have hrun := (s1.trans s2).trans s3
      have lenOf : ∀ {α : Type} {l l' : List α}, (∀ j : Nat, l'[j]? = none ↔ l[j]? = none) → l'.length = l.length := by
        intro α l l' hh
        have h2 := (hh l'.length).1 (List.getElem?_eq_none (Nat.le_refl _))
        have h3 := (hh l.length).2 (List.getElem?_eq_none (Nat.le_refl _))
        rw [List.getElem?_eq_none_iff] at h2 h3
        omega
      refine h.stays ht hrun k13 (by omega) hQ hR ⟨lenOf ?_, lenOf ?_⟩ ?_ (by simp [doneOf, her])
      · intro j
        rw [gns]
        by_cases hj : f = j
        · subst hj; simp [hnf]
        · simp [hj]
      · intro j
        rw [ges]
        by_cases hj : q1 = j ∨ q2 = j
        · rcases hj with rfl | rfl
          · simp [he1]
          · simp [he2]
        · simp [hj]
      · rw [kans]
        unfold wantOf
        rw [hu, her]; rfl
    · have her : spendErr 0 L 1 n e c = 0 := by unfold spendErr spendN spendE; rw [if_neg (by simpa using hfull), if_neg hcl]
      obtain ⟨f, q1, q2, nf, e1, e2, M', k2', hnf, hfu, he1, hu1, he2, hu2, hqq, hfx, s2, k13, kans, ges, gns⟩ := run_put (P := P) (t := t) (M := P.mem) (c := c) (sl := 2) (k := k') hi h.kind k1 k4 k5 k6 k7 k8 l1 l2 l3 l5 l6 l9 b1 b3 b6 (by rw [k2]; omega) h.mem.hold h.mem.calm (by rw [hroom.1]; omega) (by rw [hroom.2]; omega) (by rw [hlim]; omega)
      rw [k2, k3 rfl] at gns
      have hQ := hq.put hclk.2.1 ky va ha hb hk hnf hfu he1 hu1 he2 hu2 hqq l1 ges gns
      obtain ⟨r1, r2, r3, r4⟩ := room_put (NF := linked false (heads b) (PNode.made ky va)) (ND := { nd with leads := upd nd.leads false f }) hnf hfu l1 l2 rfl l2 hfx he1 hu1 he2 hu2 hqq rfl rfl ges gns
      have hrun := s1.trans s2
      obtain ⟨o1, o2, o3, o4⟩ := h.opOf ht hrun k13
      have hd : doneOf 0 L n e c (ch.map (·.2)) 1 ky = true := by simp [doneOf, hu, her]
      refine ⟨_, by omega, o1, o2, ?_, ?_⟩
      · rw [o3, kans]
        unfold wantOf
        rw [hu, her, hA]; rfl
      · rw [o4, hd]
        simp only [if_true]
        refine ⟨a ++ (f, ky, va) :: b, h.ended (t := t) hQ ⟨by omega, by omega⟩ ⟨by rw [r1, hroom.1]; rfl, by rw [r2, hroom.2]; rfl⟩ ⟨r3, r4⟩, ?_⟩
        unfold shNew
        rw [hu]
        show shPut _ ky va = _
        unfold shPut
        rw [v2, v3]; simp
end
end Go.Proofs.YtfccelbmacjifaaGreat

set_option linter.unusedSimpArgs false
namespace Go.Proofs.YtfccelbmacjifaaGreat
section
variable {N E L : Int} {P : PSt} {ch : List Spot3} {n e c : Int} {i : Nat} {t : PThread}
theorem len_same {α : Type} {l l' : List α} (hh : ∀ j : Nat, l'[j]? = none ↔ l[j]? = none) : l'.length = l.length := by
  have h2 := (hh l'.length).1 (List.getElem?_eq_none (Nat.le_refl _))
  have h3 := (hh l.length).2 (List.getElem?_eq_none (Nat.le_refl _))
  rw [List.getElem?_eq_none_iff] at h2 h3
  omega
set_option maxHeartbeats 1000000 in
/-- A Remove of a key that is there. -/
theorem QS.remOld (h : QS N E L P ch n e c) (hn0 : 0 ≤ n) (ht : P.ts[i]? = some t) (ky va : Int) (sp : List (Int × Int)) (hk : 0 ≤ ky ∧ ky ≤ 1099511627776) {a b : List Spot3} {w : Spot3} (hab : ch = a ++ w :: b) (hw : w.2.1 = ky) (ha : ∀ q ∈ a, q.2.1 < ky) (hb : ∀ q ∈ b, ky < q.2.1) : Asked N E L P (ch.map (·.2)) n e c i t 2 ky va sp := by
  have hi := (List.getElem?_eq_some_iff.1 ht).1
  have hf := h.mem.few
  have hl := h.len
  have hch : ch.length = a.length + (b.length + 1) := by rw [hab]; simp
  obtain ⟨k', s1, k1, k2, _, k4, k5, k6, k7, k8⟩ := h.walk (t := t) hi 2 ky va sp (.inr rfl) hk.2 hab ha (fun q hq => by
    rcases List.mem_cons.1 hq with rfl | hq
    · omega
    · have := hb q hq; omega)
  have hq := h.mem
  rw [hab] at hq
  have hp : (w, heads b) ∈ postE (w :: b) := mem_edges_self w b
  obtain ⟨nb, b1, b2, b3, b4, b5, b6, b7, b8, b9⟩ := hq.live (w, heads b) (mem_split (.inr hp))
  simp only at b1 b7 b8 b9
  have hne : (lastOf anchor3 a).1 ≠ w.1 := (edges_split hq.nodup (w, heads b) (.inr hp)).symm
  obtain ⟨v1, v2, v3⟩ := sheet_hit hw ha hb
  rw [← hab] at v1 v2 v3
  have hu : shUpd (ch.map (·.2)) 2 ky = true := by unfold shUpd; rw [v1]; rfl
  have hA : shAns (ch.map (·.2)) 2 ky sp = { did := true, value := w.2.2 } := by unfold shAns; rw [hu, v1]; rfl
  obtain ⟨nd, l1, l2, l3, l4, l5, l6, l7, l8, l9⟩ := hq.live _ (mem_mid a (w :: b))
  simp only at l1 l7 l8 l9
  have hbk : (nb.key == k'.key) = (k'.kind == 2) := by
    rw [k1, k2, b7, hw]; simp
  have hroom := h.room
  have hclk := h.clk
  have hlim := h.lim
  by_cases hfull : e < 1
  · have her : spendErr 0 L 2 n e c = 7 := by unfold spendErr spendN spendE; rw [if_pos (by simp; omega)]
    obtain ⟨m, lk, M1, g, hm3, hL, s2⟩ := run_pre (P := P) (t := t) (M := P.mem) (c := c) (sl := 2) (k := k') hi h.kind (by rw [k1]; exact .inr rfl) k4 k5 k7 k8 l1 l2 l3 l5 l6 l9 b1 b2 b3 b5 hne hbk
    have s3 := run_nofit (P := P) (t := t) (M := P.mem) (M1 := M1) (c := c) (sl := 2) (k := { k' with locks := lk, next := 7 }) hi (.inr k1) rfl hL h.mem.hold (by
      have hnd : (st P i t M1 c 2 { k' with locks := lk, next := 7 }).needs k'.kind = (0, 1) := by
        unfold PSt.needs
        rw [k1, if_pos rfl]
      show P.mem.room.1 < ((st P i t M1 c 2 { k' with locks := lk, next := 7 }).needs k'.kind).1 ∨ P.mem.room.2 < ((st P i t M1 c 2 { k' with locks := lk, next := 7 }).needs k'.kind).2
      rw [hnd, hroom.2]; exact .inr hfull)
    have hrun := (s1.trans s2).trans s3
    refine h.stays ht hrun rfl (by omega) h.mem rfl ⟨rfl, rfl⟩ ?_ (by simp [doneOf, her])
    show ({ err := 7 } : BAns) = _
    unfold wantOf
    rw [hu, her]; rfl
  · by_cases hcl : c = L
    · have her : spendErr 0 L 2 n e c = 8 := by unfold spendErr spendN spendE; rw [if_neg (by simp; omega), if_pos hcl]
      obtain ⟨m, lk, M1, g, hm3, hL, s2⟩ := run_pre (P := P) (t := t) (M := P.mem) (c := c) (sl := 2) (k := k') hi h.kind (by rw [k1]; exact .inr rfl) k4 k5 k7 k8 l1 l2 l3 l5 l6 l9 b1 b2 b3 b5 hne hbk
      obtain ⟨q1, e1, M', k2', he1, hu1, s3, k13, kans, ges, gns⟩ := run_clock2 (P := P) (t := t) (M := P.mem) (M1 := M1) (c := c) (sl := 2) (k := { k' with locks := lk, next := 7 }) hi h.kind k1 rfl k6 hL h.mem.hold h.mem.calm k7 k8 l1 l6 b1 b6 b9 (by rw [hroom.2]; omega) (by rw [hlim]; omega)
      obtain ⟨hQ, hR⟩ := h.mem.wiped (M' := M') (fun j => by
        rw [ges]
        by_cases hj : q1 = j
        · rw [if_pos hj]; subst hj; exact .inr ⟨rfl, e1, he1, hu1⟩
        · rw [if_neg hj]; exact .inl rfl) (fun j => by rw [gns]; exact .inl rfl)
      have hrun := (s1.trans s2).trans s3
      refine h.stays ht hrun k13 (by omega) hQ hR ⟨by rw [gns], len_same ?_⟩ ?_ (by simp [doneOf, her])
      · intro j
        rw [ges]
        by_cases hj : q1 = j
        · subst hj; simp [he1]
        · simp [hj]
      · rw [kans]
        unfold wantOf
        rw [hu, her]; rfl
    · have her : spendErr 0 L 2 n e c = 0 := by unfold spendErr spendN spendE; rw [if_neg (by simp; omega), if_neg hcl]
      obtain ⟨q1, e1, M', k2', he1, hu1, s2, k13, kans, ges, gns⟩ := run_del (P := P) (t := t) (M := P.mem) (c := c) (sl := 2) (k := k') hi h.kind k1 k4 k5 k7 k8 l1 l2 l3 l5 l6 l9 b1 b2 b3 b5 b6 b9 hne (by rw [k2, b7, hw]) h.mem.hold h.mem.calm (by rw [hroom.2]; omega) (by rw [hlim]; omega)
      have hQ := hq.del hclk.2.1 he1 hu1 l1 b1 ges gns
      obtain ⟨r1, r2, r3, r4⟩ := room_del (ND := { nd with leads := upd nd.leads false (heads b) }) (NB := { nb with dead := true, retired := true, retiredAt := c + 1 }) l1 l2 b1 b2 l2 b2 hne he1 hu1 rfl ges gns
      have hrun := s1.trans s2
      obtain ⟨o1, o2, o3, o4⟩ := h.opOf ht hrun k13
      have hd : doneOf 0 L n e c (ch.map (·.2)) 2 ky = true := by simp [doneOf, hu, her]
      refine ⟨_, by omega, o1, o2, ?_, ?_⟩
      · rw [o3, kans]
        unfold wantOf
        rw [hu, her, hA, b8]; rfl
      · rw [o4, hd]
        simp only [if_true]
        refine ⟨a ++ b, h.ended (t := t) hQ ⟨by omega, by omega⟩ ⟨by rw [r1, hroom.1]; show n = n - 0; omega, by rw [r2, hroom.2]; rfl⟩ ⟨r3, r4⟩, ?_⟩
        unfold shNew
        rw [hu]
        show shDel _ ky = _
        unfold shDel
        rw [v2, v3]; simp
end
end Go.Proofs.YtfccelbmacjifaaGreat

set_option linter.unusedSimpArgs false
namespace Go.Proofs.YtfccelbmacjifaaGreat
theorem fresh_mem (nn en : Nat) : freshMem nn (en + 1) = ⟨linked false 1 anchorNode :: endNode :: List.replicate nn PNode.zero, ⟨true, false, 0, false, 1, 0⟩ :: List.replicate en PEntry.zero⟩ := by
  unfold freshMem
  have h1 : (⟨freshNodes nn, List.replicate (en + 1) PEntry.zero⟩ : PMem).addLink 0 1 = ⟨linked false 1 anchorNode :: endNode :: List.replicate nn PNode.zero, ⟨true, true, 0, false, 1, 0⟩ :: List.replicate en PEntry.zero⟩ :=
    addLink_ok (M := ⟨freshNodes nn, List.replicate (en + 1) PEntry.zero⟩) (n := 0) (q := 0) (nd := anchorNode) (e := PEntry.zero) rfl rfl rfl rfl 1
  rw [h1]
  unfold PMem.stampNew
  have h2 : (⟨linked false 1 anchorNode :: endNode :: List.replicate nn PNode.zero, ⟨true, true, 0, false, 1, 0⟩ :: List.replicate en PEntry.zero⟩ : PMem).stamp 0 false 0 = ⟨linked false 1 anchorNode :: endNode :: List.replicate nn PNode.zero, ⟨true, false, 0, false, 1, 0⟩ :: List.replicate en PEntry.zero⟩ :=
    stamp_ok (n := 0) (q := 0) (e := ⟨true, true, 0, false, 1, 0⟩) rfl rfl 0
  rw [h2]
  refine stamp_none ?_ _
  · refine find_miss _ _ ?_
    intro j _ y hy
    cases j with
    | zero =>
      have := Option.some.inj hy
      subst this; rfl
    | succ j =>
      have hy' : (List.replicate en PEntry.zero)[j]? = some y := hy
      have := (List.mem_replicate.1 (List.mem_of_getElem? hy')).2
      subst this; rfl
end Go.Proofs.YtfccelbmacjifaaGreat

set_option linter.unusedSimpArgs false
namespace Go.Proofs.YtfccelbmacjifaaGreat
theorem fresh_qm (nn en : Nat) : QM (freshMem nn (en + 1)) 0 [] := by
  rw [fresh_mem]
  have hes : ∀ x ∈ (⟨true, false, 0, false, 1, 0⟩ :: List.replicate en PEntry.zero : List PEntry), x = ⟨true, false, 0, false, 1, 0⟩ ∨ x = PEntry.zero := by
    intro x hx
    rcases List.mem_cons.1 hx with rfl | hx
    · exact .inl rfl
    · exact .inr (List.mem_replicate.1 hx).2
  have hns : ∀ (j : Nat) x, (linked false 1 anchorNode :: endNode :: List.replicate nn PNode.zero)[j]? = some x → (j = 0 ∧ x = linked false 1 anchorNode) ∨ (j = 1 ∧ x = endNode) ∨ x = PNode.zero := by
    intro j x hj
    match j, hj with
    | 0, hj => exact .inl ⟨rfl, (Option.some.inj hj).symm⟩
    | 1, hj => exact .inr (.inl ⟨rfl, (Option.some.inj hj).symm⟩)
    | j + 2, hj =>
      have hj' : (List.replicate nn PNode.zero)[j]? = some x := hj
      exact .inr (.inr (List.mem_replicate.1 (List.mem_of_getElem? hj')).2)
  refine ⟨⟨endNode, rfl, rfl, rfl, rfl, rfl, rfl, rfl⟩, ?_, ?_, List.Pairwise.nil, by simp, by simp, ?_, ?_, ?_, ?_, ?_, ?_⟩
  · intro q hq
    obtain rfl : q = (anchor3, 1) := by simpa [edges] using hq
    exact ⟨linked false 1 anchorNode, rfl, rfl, rfl, rfl, rfl, rfl, rfl, rfl, rfl⟩
  · intro q hq
    obtain rfl : q = (anchor3, 1) := by simpa [edges] using hq
    refine ⟨⟨true, false, 0, false, 1, 0⟩, by simp, rfl, rfl, rfl, ?_⟩
    intro e' he hu _
    rcases hes e' he with rfl | rfl
    · exact Int.le_refl _
    · cases hu
  · intro i nd hi hu
    rcases hns i nd hi with ⟨rfl, _⟩ | ⟨rfl, _⟩ | rfl
    · left; simp
    · left; simp
    · cases hu
  · intro nd hm hu
    obtain ⟨j, hj⟩ := mem_get hm
    rcases hns j nd hj with ⟨_, rfl⟩ | ⟨_, rfl⟩ | rfl <;> rfl
  · intro nd hm hu
    obtain ⟨j, hj⟩ := mem_get hm
    rcases hns j nd hj with ⟨_, rfl⟩ | ⟨_, rfl⟩ | rfl
    · rfl
    · rfl
    · cases hu
  · intro en' he
    rcases hes en' he with rfl | rfl <;> rfl
  · intro en' he hu
    rcases hes en' he with rfl | rfl
    · exact ⟨rfl, Int.le_refl _, Int.le_refl _, 0, linked false 1 anchorNode, rfl, by decide, rfl, rfl⟩
    · cases hu
  · intro i j a b hi hj ua ub _ _
    have one : ∀ (i : Nat) a, (⟨true, false, 0, false, 1, 0⟩ :: List.replicate en PEntry.zero : List PEntry)[i]? = some a → a.used = true → i = 0 := by
      intro i a hi hu
      cases i with
      | zero => rfl
      | succ i =>
        have hi' : (List.replicate en PEntry.zero)[i]? = some a := hi
        have := (List.mem_replicate.1 (List.mem_of_getElem? hi')).2
        subst this; cases hu
    rw [one i a hi ua, one j b hj ub]
end Go.Proofs.YtfccelbmacjifaaGreat

set_option linter.unusedSimpArgs false
namespace Go.Proofs.YtfccelbmacjifaaGreat
theorem fresh_qs {T N E L : Int} (hN : 0 ≤ N) (hE : 1 ≤ E) (hL : 0 ≤ L) : QS N E L (freshP 0 T N E L) [] N (E - 1) 0 := by
  obtain ⟨en, hen⟩ : ∃ en : Nat, E.toNat = en + 1 := ⟨E.toNat - 1, by omega⟩
  have hmem : (freshP 0 T N E L).mem = freshMem N.toNat (en + 1) := by show freshMem N.toNat E.toNat = _; rw [hen]
  have hrep : ∀ k : Nat, count (fun x : PNode => !x.used) (List.replicate k PNode.zero) = k := by
    intro k; unfold count; rw [List.filter_eq_self.2 (fun x hx => by rw [(List.mem_replicate.1 hx).2]; rfl)]; simp
  have hrepE : ∀ k : Nat, count (fun x : PEntry => !x.used) (List.replicate k PEntry.zero) = k := by
    intro k; unfold count; rw [List.filter_eq_self.2 (fun x hx => by rw [(List.mem_replicate.1 hx).2]; rfl)]; simp
  refine ⟨by rw [hmem]; exact fresh_qm _ _, ⟨rfl, Int.le_refl _, hL⟩, rfl, rfl, rfl, ?_, ?_, ?_⟩
  · intro t ht
    have := (List.mem_replicate.1 (show t ∈ List.replicate T.toNat PThread.zero from ht)).2
    subst this; exact ⟨rfl, rfl⟩
  · rw [hmem, fresh_mem]
    have h1 : (count (fun x : PNode => !x.used) (linked false 1 anchorNode :: endNode :: List.replicate N.toNat PNode.zero)) = N.toNat := hrep N.toNat
    have h2 : (count (fun x : PEntry => !x.used) (⟨true, false, 0, false, 1, 0⟩ :: List.replicate en PEntry.zero)) = en := hrepE en
    unfold PMem.room
    simp only
    rw [h1, h2]
    constructor <;> omega
  · rw [hmem, fresh_mem]
    simp only [List.length_cons, List.length_replicate]
    constructor <;> omega
theorem quiets {T N E L : Int} (hN : 0 ≤ N ∧ N ≤ 64) (hE : 1 ≤ E ∧ E ≤ 256) (hL : 0 ≤ L ∧ L ≤ 1099511627776) : Quiets T N E L (Qof N E L) := by
  refine ⟨⟨[], fresh_qs hN.1 hE.1 hL.1, rfl⟩, ?_, ?_, ?_, ?_⟩
  · rintro P ps n e c ⟨ch, h, rfl⟩
    exact h.rooms hN hE hL
  · rintro P ps n e c ⟨ch, h, rfl⟩ t ht
    exact (h.idle t ht).1
  · rintro P ps n e c i t kd ky va sp ⟨ch, h, rfl⟩ ht hp
    show Asked N E L P (ch.map (·.2)) n e c i t kd ky va sp
    have hr := h.rooms hN hE hL
    unfold properB checkOp at hp
    by_cases h123 : kd = 1 ∨ kd = 2 ∨ kd = 3
    · rw [if_pos h123] at hp
      have hk : 0 ≤ ky ∧ ky ≤ 1099511627776 := by
        by_cases hh : isIn ky 0 (2 ^ 40) = true
        · have := isIn_iff.1 hh; omega
        · rw [if_neg hh] at hp; simp at hp
      rcases h123 with rfl | rfl | rfl
      · rcases h.mem.split ky with ⟨a, b, hab, ha, hb⟩ | ⟨a, w, b, hab, hw, ha, hb⟩
        · exact h.insNew hN.1 ht ky va sp hk hab ha hb
        · have hq := h.mem
          rw [hab] at hq
          have hl := (hq.live (w, heads b) (mem_split (.inr (mem_edges_self w b)))).key
          refine h.noChange hN.1 ht 1 ky va sp (.inl rfl) hk.2 hab ha ?_ ?_ ?_
          · intro q hq
            rcases List.mem_cons.1 hq with rfl | hq
            · omega
            · have := hb q hq; omega
          · show ((P.mem.node w.1).key == ky) = _
            rw [hl.1]; simpa using hw
          · obtain ⟨v1, _, _⟩ := sheet_hit hw ha hb
            rw [hab]; unfold shUpd; rw [v1]; rfl
      · rcases h.mem.split ky with ⟨a, b, hab, ha, hb⟩ | ⟨a, w, b, hab, hw, ha, hb⟩
        · have hq := h.mem
          rw [hab] at hq
          have hg := hq.headGt hk.2 hb
          refine h.noChange hN.1 ht 2 ky va sp (.inr rfl) hk.2 hab ha (fun q hq => by have := hb q hq; omega) ?_ ?_
          · have : (P.mem.node (heads b)).key ≠ ky := by omega
            simpa using this
          · obtain ⟨v1, _, _⟩ := sheet_miss ha hb
            rw [hab]; unfold shUpd; rw [v1]; rfl
        · exact h.remOld hr.2.2.2.1.1 ht ky va sp hk hab hw ha hb
      · exact h.look hN.1 ht ky va sp hk
    · rw [if_neg h123] at hp
      by_cases h4 : kd = 4
      · subst h4
        rw [if_pos rfl] at hp
        have hs : spansOkX sp = true := by
          cases hh : spansOkX sp with
          | true => rfl
          | false => rw [hh] at hp; simp at hp
        exact h.scan hN.1 ht ky va sp hs
      · rw [if_neg h4] at hp; simp at hp
  · rintro P ps n e c ⟨ch, h, rfl⟩
    obtain ⟨h1, h2, h3⟩ := h.sweeps
    exact ⟨h1, h2, ch, h3, rfl⟩
end Go.Proofs.YtfccelbmacjifaaGreat

set_option linter.unusedSimpArgs false
namespace Go.Proofs.YtfccelbmacjifaaGreat
open Go.RowKit
section
variable {W w w1 w2 : World} {pb sb ub : Nat} {T N E L : Int} {Q : PSt → List (Int × Int) → Int → Int → Int → Prop} {j i : Nat} {own own1 : Own} {D D1 : PlD} {ps : List (Int × Int)} {n e c : Int}
theorem lone_act (hQ : Quiets T N E L Q) (h : AlSt W w pb sb ub T N E L Q j own D ps n e c) (hN : 0 ≤ N ∧ N ≤ 64) (hj : j ≤ 2 ^ 20) (hi : (i : Int) < T) (kd ky va : Int) (sp : List (Int × Int)) (sa : Option Addr) (sc : Nat) (ho : OpOk own 2 w ⟨kd, ky, va, sp, .slice sa sp.length sc⟩) (hsl : sp.length ≤ 2 ^ 40) :
    Calls Tryz.prog 44 #[pv pb, pv sb, pv ub, .int .i64 i, opVal kd ky va (.slice sa sp.length sc)] w fun r w' => r = .returned (.bool true) ∧ AlOn W w' pb sb ub T N E L Q (j + 1) ∧ FrA own 1 w w' := by
  have hil : i < D.P.ts.length := by have := h.at_.pl.thr; have := h.cfg.2.1; omega
  have ht : D.P.ts[i]? = some D.P.ts[i] := List.getElem?_eq_getElem hil
  have htb : D.P.ts[i].busy = false := hQ.idle h.q _ (List.getElem_mem hil)
  generalize D.P.ts[i] = t at ht htb
  have hc : D.puts ≤ 2 ^ 40 ∧ 0 ≤ D.puts ∧ D.takes ≤ 2 ^ 40 ∧ 0 ≤ D.takes := by have := h.cnt; omega
  cases hp : properB kd ky sp
  · refine (lone_off (sb := sb) (ub := ub) h.at_.pl h.ok ht htb kd ky va sp sa sc ho hsl hc hp).mono ?_
    rintro r w1 ⟨rfl, own1, D1, hP, hE, hF, hB⟩
    obtain ⟨y1, y2, y3, y4, y5, y6⟩ := hB.no (.inr hp)
    have hfa := hF.fra
    refine ⟨rfl, ⟨own1, D1, ps, n, e, c, ⟨h.at_.player hP hE hF, Ext.trans h.ext hE h.fr.size, h.old (fun k hk => hk.1) hfa, by rw [y1]; exact h.q, ?_, ?_, by rw [hB.N]; have := h.N; omega, by rw [hB.deeds]; have := h.deeds; omega, by have := h.cnt; rw [y5, y6]; omega⟩⟩, hfa⟩
    · show D1.bs = D1.P.ts.map (·.busy)
      rw [y1, y2]; exact h.ok
    · obtain ⟨a1, a2, a3, a4, a5⟩ := hB.cfg
      obtain ⟨b1, b2, b3, b4, b5⟩ := h.cfg
      exact ⟨a1.trans b1, a2.trans b2, a3.trans b3, a4.trans b4, a5.trans b5⟩
  · obtain ⟨m, hm, hmv, hend, hans, hq⟩ := hQ.op kd ky va sp h.q ht hp
    obtain ⟨_, _, _, r1, r2, r3, r4⟩ := hQ.room h.q
    have hl := h.cfg.2.2.2.2
    refine (lone_on h.at_ h.ok ht htb kd ky va sp sa sc ho hsl hc hp h.cfg.1 (by rw [h.cfg.2.2.1]; exact hN) (by omega) r1 r2 r3 (by have := h.N; omega) (by have := h.deeds; omega) m (by rw [h.cfg.2.2.1]; exact hm) _ rfl hmv hend (by rw [hl]; exact hans)).mono ?_
    rintro r w1 ⟨rfl, own1, D1, hA, hE, hF, hL⟩
    rw [hl] at hA
    exact ⟨rfl, ⟨own1, D1, _, _, _, _, h.loned hQ hE hF hm hN.2 hL hA hq⟩, hF⟩
theorem swept_act (hQ : Quiets T N E L Q) (h : AlSt W w pb sb ub T N E L Q j own D ps n e c) :
    Calls Tryz.prog 45 #[pv pb] w fun r w' => r = .returned (.bool true) ∧ ∃ own1 D1, AlAt own1 1 w' pb sb ub D1 ps n e c ∧ (∀ n' e' w2, AlAt own1 1 w2 pb sb ub D1 ps n' e' c → n' = N - ps.length → e' = E - ps.length - 1 → Fr (fun k => k = ub) w' w2 → AlSt W w2 pb sb ub T N E L Q (j + 1) own1 D1 ps n' e' c) ∧ D1.k = 0 ∧ D1.n = N ∧ D1.e = E := by
  obtain ⟨h1, h2, h3⟩ := hQ.sweep h.q
  refine (Pswept_calls h.at_.pl h1 h2).mono ?_
  rintro r w1 ⟨rfl, own1, D1, hP, hE, hF, L', hL', rfl⟩
  have hA := h.at_.player hP hE hF
  refine ⟨rfl, own1, _, hA, ?_, h.cfg.1, h.cfg.2.2.1, h.cfg.2.2.2.1⟩
  rintro n' e' w2 hA2 rfl rfl hf2
  have hub : own ub = ⟨4, .store⟩ := h.at_.tu
  have hubl : ub < w.heap.size := At.lt h.at_.pu
  have hfr : Fr (fun _ => False) W w2 := by
    refine h.old (S := fun k => 1 ≤ (own k).z) (fun k hk => hk) ?_
    refine (Fr.mono hF.fra (fun k _ hk => hk.1)).trans (Fr.mono hf2 ?_)
    rintro k _ rfl
    rw [hub]; decide
  refine ⟨hA2, Ext.trans h.ext hE h.fr.size, hfr, h3, ?_, h.cfg, by have := h.N; show D.N ≤ _; omega, by have := h.deeds; show D.deeds.length ≤ _; omega, by have := h.cnt; show 0 ≤ D.puts ∧ D.puts ≤ _ ∧ 0 ≤ D.takes ∧ D.takes ≤ _; omega⟩
  exact ok_of (hQ.idle h3) (ok_all (D := D) (hQ.idle h.q) h.ok) hP.bl
theorem is_act (hQ : Quiets T N E L Q) (h : AlSt W w pb sb ub T N E L Q j own D ps n e c) :
    Calls Tryz.prog 46 #[pv pb, pv ub] w fun r w' => r = .returned (.bool true) ∧ w' = w := by
  obtain ⟨h1, h2, h3, _⟩ := hQ.room h.q
  exact Pis_calls h.at_.pl h.at_.pu h1 h2 h3
end
end Go.Proofs.YtfccelbmacjifaaGreat

