import Derived.Test.YtfccelbmacjifaaGreatP31
import Derived.Test.YtfccelbmacjifaaGreatP10
import Derived.Test.YtfccelbmacjifaaGreatP9
import Derived.Test.YtfccelbmacjifaaGreatP27
set_option linter.unusedSimpArgs false
namespace Go.Proofs.YtfccelbmacjifaaGreat
section
variable {N E L : Int} {P : PSt} {ch : List Spot3} {n e c : Int} {i : Nat} {t : PThread}
theorem QM.srcs {M : PMem} (h : QM M c ch) : ∀ en ∈ M.es, en.used = true → ∃ (x : Nat) (nd : PNode), en.src = x ∧ M.ns[x]? = some nd ∧ nd.used = true := by
  intro en he hu
  obtain ⟨_, _, _, x, nd, p4, _, p6, p7⟩ := h.ents en he hu
  exact ⟨x, nd, p4, p6, p7⟩
set_option maxHeartbeats 1000000 in
/-- An Insert of a key that is not there. -/
theorem QS.insNew (h : QS N E L P ch n e c) (_hN : 0 ≤ N) (ht : P.ts[i]? = some t) (ky va : Int) (sp : List (Int × Int)) (hk : 0 ≤ ky ∧ ky ≤ 1099511627776) {a b : List Spot3} (hab : ch = a ++ b) (ha : ∀ q ∈ a, q.2.1 < ky) (hb : ∀ q ∈ b, ky < q.2.1) : Asked N E L P (ch.map (·.2)) n e c i t 1 ky va sp := by
  have hi := (List.getElem?_eq_some_iff.1 ht).1
  have hf := h.mem.few
  have hl := h.len
  have hch : ch.length = a.length + b.length := by rw [hab]; simp
  obtain ⟨k', s1, k1, k2, k3, k4, k5, k6, k7, k8⟩ := h.walk (t := t) hi 1 ky va sp (.inl rfl) hk.2 hab ha (fun q hq => by have := hb q hq; omega)
  have hq := h.mem
  rw [hab] at hq
  obtain ⟨nb, b1, b2, b3, b4, b5, b6⟩ := hq.headNode
  have hgt := hq.headGt hk.2 hb
  obtain ⟨v1, v2, v3⟩ := sheet_miss ha hb
  rw [← hab] at v1 v2 v3
  have hu : shUpd (ch.map (·.2)) 1 ky = true := by unfold shUpd; rw [v1]; rfl
  have hA : shAns (ch.map (·.2)) 1 ky sp = { did := true, value := 0 } := by unfold shAns; rw [hu]; rfl
  obtain ⟨nd, l1, l2, l3, l4, l5, l6, l7, l8, l9⟩ := hq.live _ (mem_mid a b)
  simp only at l1 l7 l8 l9
  have hbk : (nb.key == k'.key) = (k'.kind == 2) := by
    have h1 : nb.key ≠ ky := by omega
    rw [k1, k2]
    simpa using h1
  have hroom := h.room
  have hclk := h.clk
  have hlim := h.lim
  by_cases hfull : n < 1 ∨ e < 2
  · have her : spendErr 0 L 1 n e c = 7 := by unfold spendErr spendN spendE; rw [if_pos (by simpa using hfull)]
    obtain ⟨m, lk, M1, g, hm3, hL, s2⟩ := run_pre (P := P) (t := t) (M := P.mem) (c := c) (sl := 2) (k := k') hi h.kind (by rw [k1]; exact .inl rfl) k4 k5 k7 k8 l1 l2 l3 l5 l6 l9 b1 b2 b3 b4 b6 hbk
    have s3 := run_nofit (P := P) (t := t) (M := P.mem) (M1 := M1) (c := c) (sl := 2) (k := { k' with locks := lk, next := 7 }) hi (.inl k1) rfl hL h.mem.hold (by
      have hnd : (st P i t M1 c 2 { k' with locks := lk, next := 7 }).needs k'.kind = (1, 2) := by
        unfold PSt.needs
        rw [k1, if_neg (by omega), if_neg (by show ¬ P.kind = 1; rw [h.kind]; omega)]
      show P.mem.room.1 < ((st P i t M1 c 2 { k' with locks := lk, next := 7 }).needs k'.kind).1 ∨ P.mem.room.2 < ((st P i t M1 c 2 { k' with locks := lk, next := 7 }).needs k'.kind).2
      rw [hnd, hroom.1, hroom.2]; exact hfull)
    have hrun := (s1.trans s2).trans s3
    refine h.stays ht hrun rfl (by omega) h.mem rfl ⟨rfl, rfl⟩ ?_ (by simp [doneOf, her])
    show ({ err := 7 } : BAns) = _
    unfold wantOf
    rw [hu, her]; rfl
  · by_cases hcl : c = L
    · have her : spendErr 0 L 1 n e c = 8 := by unfold spendErr spendN spendE; rw [if_neg (by simpa using hfull), if_pos hcl]
      obtain ⟨m, lk, M1, g, hm3, hL, s2⟩ := run_pre (P := P) (t := t) (M := P.mem) (c := c) (sl := 2) (k := k') hi h.kind (by rw [k1]; exact .inl rfl) k4 k5 k7 k8 l1 l2 l3 l5 l6 l9 b1 b2 b3 b4 b6 hbk
      obtain ⟨f, q1, q2, nf, e1, e2, M', k2', hnf, hfu, he1, hu1, he2, hu2, hqq, s3, k13, kans, ges, gns⟩ := run_clock1 (P := P) (t := t) (M := P.mem) (M1 := M1) (c := c) (sl := 2) (k := { k' with locks := lk, next := 7 }) hi h.kind k1 rfl k6 hL h.mem.hold h.mem.calm k7 k8 l1 l6 l2 h.mem.srcs
        (by obtain ⟨na, a1, a2, _⟩ := h.mem.live _ (mem_edges_self anchor3 ch); exact ⟨na, a1, a2⟩) (by obtain ⟨ne, z1, z2, _⟩ := h.mem.end_; exact ⟨ne, z1, z2⟩) (by rw [hroom.1]; omega) (by rw [hroom.2]; omega) (by rw [hlim]; omega)
      obtain ⟨hQ, hR⟩ := h.mem.wiped (M' := M') (fun j => by
        rw [ges]
        by_cases hj : q1 = j ∨ q2 = j
        · rw [if_pos hj]
          right
          rcases hj with rfl | rfl
          · exact ⟨rfl, e1, he1, hu1⟩
          · exact ⟨rfl, e2, he2, hu2⟩
        · rw [if_neg hj]; exact .inl rfl) (fun j => by
        rw [gns]
        by_cases hj : f = j
        · rw [if_pos hj]; subst hj; exact .inr ⟨rfl, nf, hnf, hfu⟩
        · rw [if_neg hj]; exact .inl rfl)
      have hrun := (s1.trans s2).trans s3
      have lenOf : ∀ {α : Type} {l l' : List α}, (∀ j : Nat, l'[j]? = none ↔ l[j]? = none) → l'.length = l.length := by
        intro α l l' hh
        have h2 := (hh l'.length).1 (List.getElem?_eq_none (Nat.le_refl _))
        have h3 := (hh l.length).2 (List.getElem?_eq_none (Nat.le_refl _))
        rw [List.getElem?_eq_none_iff] at h2 h3
        omega
      refine h.stays ht hrun k13 (by omega) hQ hR ⟨lenOf ?_, lenOf ?_⟩ ?_ (by simp [doneOf, her])
      · intro j
        rw [gns]
        by_cases hj : f = j
        · subst hj; simp [hnf]
        · simp [hj]
      · intro j
        rw [ges]
        by_cases hj : q1 = j ∨ q2 = j
        · rcases hj with rfl | rfl
          · simp [he1]
          · simp [he2]
        · simp [hj]
      · rw [kans]
        unfold wantOf
        rw [hu, her]; rfl
    · have her : spendErr 0 L 1 n e c = 0 := by unfold spendErr spendN spendE; rw [if_neg (by simpa using hfull), if_neg hcl]
      obtain ⟨f, q1, q2, nf, e1, e2, M', k2', hnf, hfu, he1, hu1, he2, hu2, hqq, hfx, s2, k13, kans, ges, gns⟩ := run_put (P := P) (t := t) (M := P.mem) (c := c) (sl := 2) (k := k') hi h.kind k1 k4 k5 k6 k7 k8 l1 l2 l3 l5 l6 l9 b1 b3 b6 (by rw [k2]; omega) h.mem.hold h.mem.calm (by rw [hroom.1]; omega) (by rw [hroom.2]; omega) (by rw [hlim]; omega)
      rw [k2, k3 rfl] at gns
      have hQ := hq.put hclk.2.1 ky va ha hb hk hnf hfu he1 hu1 he2 hu2 hqq l1 ges gns
      obtain ⟨r1, r2, r3, r4⟩ := room_put (NF := linked false (heads b) (PNode.made ky va)) (ND := { nd with leads := upd nd.leads false f }) hnf hfu l1 l2 rfl l2 hfx he1 hu1 he2 hu2 hqq rfl rfl ges gns
      have hrun := s1.trans s2
      obtain ⟨o1, o2, o3, o4⟩ := h.opOf ht hrun k13
      have hd : doneOf 0 L n e c (ch.map (·.2)) 1 ky = true := by simp [doneOf, hu, her]
      refine ⟨_, by omega, o1, o2, ?_, ?_⟩
      · rw [o3, kans]
        unfold wantOf
        rw [hu, her, hA]; rfl
      · rw [o4, hd]
        simp only [if_true]
        refine ⟨a ++ (f, ky, va) :: b, h.ended (t := t) hQ ⟨by omega, by omega⟩ ⟨by rw [r1, hroom.1]; rfl, by rw [r2, hroom.2]; rfl⟩ ⟨r3, r4⟩, ?_⟩
        unfold shNew
        rw [hu]
        show shPut _ ky va = _
        unfold shPut
        rw [v2, v3]; simp
end
end Go.Proofs.YtfccelbmacjifaaGreat

set_option linter.unusedSimpArgs false
namespace Go.Proofs.YtfccelbmacjifaaGreat
section
variable {N E L : Int} {P : PSt} {ch : List Spot3} {n e c : Int} {i : Nat} {t : PThread}
theorem len_same {α : Type} {l l' : List α} (hh : ∀ j : Nat, l'[j]? = none ↔ l[j]? = none) : l'.length = l.length := by
  have h2 := (hh l'.length).1 (List.getElem?_eq_none (Nat.le_refl _))
  have h3 := (hh l.length).2 (List.getElem?_eq_none (Nat.le_refl _))
  rw [List.getElem?_eq_none_iff] at h2 h3
  omega
set_option maxHeartbeats 1000000 in
/-- A Remove of a key that is there. -/
theorem QS.remOld (h : QS N E L P ch n e c) (hn0 : 0 ≤ n) (ht : P.ts[i]? = some t) (ky va : Int) (sp : List (Int × Int)) (hk : 0 ≤ ky ∧ ky ≤ 1099511627776) {a b : List Spot3} {w : Spot3} (hab : ch = a ++ w :: b) (hw : w.2.1 = ky) (ha : ∀ q ∈ a, q.2.1 < ky) (hb : ∀ q ∈ b, ky < q.2.1) : Asked N E L P (ch.map (·.2)) n e c i t 2 ky va sp := by
  have hi := (List.getElem?_eq_some_iff.1 ht).1
  have hf := h.mem.few
  have hl := h.len
  have hch : ch.length = a.length + (b.length + 1) := by rw [hab]; simp
  obtain ⟨k', s1, k1, k2, _, k4, k5, k6, k7, k8⟩ := h.walk (t := t) hi 2 ky va sp (.inr rfl) hk.2 hab ha (fun q hq => by
    rcases List.mem_cons.1 hq with rfl | hq
    · omega
    · have := hb q hq; omega)
  have hq := h.mem
  rw [hab] at hq
  have hp : (w, heads b) ∈ postE (w :: b) := mem_edges_self w b
  obtain ⟨nb, b1, b2, b3, b4, b5, b6, b7, b8, b9⟩ := hq.live (w, heads b) (mem_split (.inr hp))
  simp only at b1 b7 b8 b9
  have hne : (lastOf anchor3 a).1 ≠ w.1 := (edges_split hq.nodup (w, heads b) (.inr hp)).symm
  obtain ⟨v1, v2, v3⟩ := sheet_hit hw ha hb
  rw [← hab] at v1 v2 v3
  have hu : shUpd (ch.map (·.2)) 2 ky = true := by unfold shUpd; rw [v1]; rfl
  have hA : shAns (ch.map (·.2)) 2 ky sp = { did := true, value := w.2.2 } := by unfold shAns; rw [hu, v1]; rfl
  obtain ⟨nd, l1, l2, l3, l4, l5, l6, l7, l8, l9⟩ := hq.live _ (mem_mid a (w :: b))
  simp only at l1 l7 l8 l9
  have hbk : (nb.key == k'.key) = (k'.kind == 2) := by
    rw [k1, k2, b7, hw]; simp
  have hroom := h.room
  have hclk := h.clk
  have hlim := h.lim
  by_cases hfull : e < 1
  · have her : spendErr 0 L 2 n e c = 7 := by unfold spendErr spendN spendE; rw [if_pos (by simp; omega)]
    obtain ⟨m, lk, M1, g, hm3, hL, s2⟩ := run_pre (P := P) (t := t) (M := P.mem) (c := c) (sl := 2) (k := k') hi h.kind (by rw [k1]; exact .inr rfl) k4 k5 k7 k8 l1 l2 l3 l5 l6 l9 b1 b2 b3 b5 hne hbk
    have s3 := run_nofit (P := P) (t := t) (M := P.mem) (M1 := M1) (c := c) (sl := 2) (k := { k' with locks := lk, next := 7 }) hi (.inr k1) rfl hL h.mem.hold (by
      have hnd : (st P i t M1 c 2 { k' with locks := lk, next := 7 }).needs k'.kind = (0, 1) := by
        unfold PSt.needs
        rw [k1, if_pos rfl]
      show P.mem.room.1 < ((st P i t M1 c 2 { k' with locks := lk, next := 7 }).needs k'.kind).1 ∨ P.mem.room.2 < ((st P i t M1 c 2 { k' with locks := lk, next := 7 }).needs k'.kind).2
      rw [hnd, hroom.2]; exact .inr hfull)
    have hrun := (s1.trans s2).trans s3
    refine h.stays ht hrun rfl (by omega) h.mem rfl ⟨rfl, rfl⟩ ?_ (by simp [doneOf, her])
    show ({ err := 7 } : BAns) = _
    unfold wantOf
    rw [hu, her]; rfl
  · by_cases hcl : c = L
    · have her : spendErr 0 L 2 n e c = 8 := by unfold spendErr spendN spendE; rw [if_neg (by simp; omega), if_pos hcl]
      obtain ⟨m, lk, M1, g, hm3, hL, s2⟩ := run_pre (P := P) (t := t) (M := P.mem) (c := c) (sl := 2) (k := k') hi h.kind (by rw [k1]; exact .inr rfl) k4 k5 k7 k8 l1 l2 l3 l5 l6 l9 b1 b2 b3 b5 hne hbk
      obtain ⟨q1, e1, M', k2', he1, hu1, s3, k13, kans, ges, gns⟩ := run_clock2 (P := P) (t := t) (M := P.mem) (M1 := M1) (c := c) (sl := 2) (k := { k' with locks := lk, next := 7 }) hi h.kind k1 rfl k6 hL h.mem.hold h.mem.calm k7 k8 l1 l6 b1 b6 b9 (by rw [hroom.2]; omega) (by rw [hlim]; omega)
      obtain ⟨hQ, hR⟩ := h.mem.wiped (M' := M') (fun j => by
        rw [ges]
        by_cases hj : q1 = j
        · rw [if_pos hj]; subst hj; exact .inr ⟨rfl, e1, he1, hu1⟩
        · rw [if_neg hj]; exact .inl rfl) (fun j => by rw [gns]; exact .inl rfl)
      have hrun := (s1.trans s2).trans s3
      refine h.stays ht hrun k13 (by omega) hQ hR ⟨by rw [gns], len_same ?_⟩ ?_ (by simp [doneOf, her])
      · intro j
        rw [ges]
        by_cases hj : q1 = j
        · subst hj; simp [he1]
        · simp [hj]
      · rw [kans]
        unfold wantOf
        rw [hu, her]; rfl
    · have her : spendErr 0 L 2 n e c = 0 := by unfold spendErr spendN spendE; rw [if_neg (by simp; omega), if_neg hcl]
      obtain ⟨q1, e1, M', k2', he1, hu1, s2, k13, kans, ges, gns⟩ := run_del (P := P) (t := t) (M := P.mem) (c := c) (sl := 2) (k := k') hi h.kind k1 k4 k5 k7 k8 l1 l2 l3 l5 l6 l9 b1 b2 b3 b5 b6 b9 hne (by rw [k2, b7, hw]) h.mem.hold h.mem.calm (by rw [hroom.2]; omega) (by rw [hlim]; omega)
      have hQ := hq.del hclk.2.1 he1 hu1 l1 b1 ges gns
      obtain ⟨r1, r2, r3, r4⟩ := room_del (ND := { nd with leads := upd nd.leads false (heads b) }) (NB := { nb with dead := true, retired := true, retiredAt := c + 1 }) l1 l2 b1 b2 l2 b2 hne he1 hu1 rfl ges gns
      have hrun := s1.trans s2
      obtain ⟨o1, o2, o3, o4⟩ := h.opOf ht hrun k13
      have hd : doneOf 0 L n e c (ch.map (·.2)) 2 ky = true := by simp [doneOf, hu, her]
      refine ⟨_, by omega, o1, o2, ?_, ?_⟩
      · rw [o3, kans]
        unfold wantOf
        rw [hu, her, hA, b8]; rfl
      · rw [o4, hd]
        simp only [if_true]
        refine ⟨a ++ b, h.ended (t := t) hQ ⟨by omega, by omega⟩ ⟨by rw [r1, hroom.1]; show n = n - 0; omega, by rw [r2, hroom.2]; rfl⟩ ⟨r3, r4⟩, ?_⟩
        unfold shNew
        rw [hu]
        show shDel _ ky = _
        unfold shDel
        rw [v2, v3]; simp
end
end Go.Proofs.YtfccelbmacjifaaGreat

set_option linter.unusedSimpArgs false
namespace Go.Proofs.YtfccelbmacjifaaGreat
theorem fresh_mem (nn en : Nat) : freshMem nn (en + 1) = ⟨linked false 1 anchorNode :: endNode :: List.replicate nn PNode.zero, ⟨true, false, 0, false, 1, 0⟩ :: List.replicate en PEntry.zero⟩ := by
  unfold freshMem
  have h1 : (⟨freshNodes nn, List.replicate (en + 1) PEntry.zero⟩ : PMem).addLink 0 1 = ⟨linked false 1 anchorNode :: endNode :: List.replicate nn PNode.zero, ⟨true, true, 0, false, 1, 0⟩ :: List.replicate en PEntry.zero⟩ :=
    addLink_ok (M := ⟨freshNodes nn, List.replicate (en + 1) PEntry.zero⟩) (n := 0) (q := 0) (nd := anchorNode) (e := PEntry.zero) rfl rfl rfl rfl 1
  rw [h1]
  unfold PMem.stampNew
  have h2 : (⟨linked false 1 anchorNode :: endNode :: List.replicate nn PNode.zero, ⟨true, true, 0, false, 1, 0⟩ :: List.replicate en PEntry.zero⟩ : PMem).stamp 0 false 0 = ⟨linked false 1 anchorNode :: endNode :: List.replicate nn PNode.zero, ⟨true, false, 0, false, 1, 0⟩ :: List.replicate en PEntry.zero⟩ :=
    stamp_ok (n := 0) (q := 0) (e := ⟨true, true, 0, false, 1, 0⟩) rfl rfl 0
  rw [h2]
  refine stamp_none ?_ _
  · refine find_miss _ _ ?_
    intro j _ y hy
    cases j with
    | zero =>
      have := Option.some.inj hy
      subst this; rfl
    | succ j =>
      have hy' : (List.replicate en PEntry.zero)[j]? = some y := hy
      have := (List.mem_replicate.1 (List.mem_of_getElem? hy')).2
      subst this; rfl
end Go.Proofs.YtfccelbmacjifaaGreat

set_option linter.unusedSimpArgs false
namespace Go.Proofs.YtfccelbmacjifaaGreat
theorem fresh_qm (nn en : Nat) : QM (freshMem nn (en + 1)) 0 [] := by
  rw [fresh_mem]
  have hes : ∀ x ∈ (⟨true, false, 0, false, 1, 0⟩ :: List.replicate en PEntry.zero : List PEntry), x = ⟨true, false, 0, false, 1, 0⟩ ∨ x = PEntry.zero := by
    intro x hx
    rcases List.mem_cons.1 hx with rfl | hx
    · exact .inl rfl
    · exact .inr (List.mem_replicate.1 hx).2
  have hns : ∀ (j : Nat) x, (linked false 1 anchorNode :: endNode :: List.replicate nn PNode.zero)[j]? = some x → (j = 0 ∧ x = linked false 1 anchorNode) ∨ (j = 1 ∧ x = endNode) ∨ x = PNode.zero := by
    intro j x hj
    match j, hj with
    | 0, hj => exact .inl ⟨rfl, (Option.some.inj hj).symm⟩
    | 1, hj => exact .inr (.inl ⟨rfl, (Option.some.inj hj).symm⟩)
    | j + 2, hj =>
      have hj' : (List.replicate nn PNode.zero)[j]? = some x := hj
      exact .inr (.inr (List.mem_replicate.1 (List.mem_of_getElem? hj')).2)
  refine ⟨⟨endNode, rfl, rfl, rfl, rfl, rfl, rfl, rfl⟩, ?_, ?_, List.Pairwise.nil, by simp, by simp, ?_, ?_, ?_, ?_, ?_, ?_⟩
  · intro q hq
    obtain rfl : q = (anchor3, 1) := by simpa [edges] using hq
    exact ⟨linked false 1 anchorNode, rfl, rfl, rfl, rfl, rfl, rfl, rfl, rfl, rfl⟩
  · intro q hq
    obtain rfl : q = (anchor3, 1) := by simpa [edges] using hq
    refine ⟨⟨true, false, 0, false, 1, 0⟩, by simp, rfl, rfl, rfl, ?_⟩
    intro e' he hu _
    rcases hes e' he with rfl | rfl
    · exact Int.le_refl _
    · cases hu
  · intro i nd hi hu
    rcases hns i nd hi with ⟨rfl, _⟩ | ⟨rfl, _⟩ | rfl
    · left; simp
    · left; simp
    · cases hu
  · intro nd hm hu
    obtain ⟨j, hj⟩ := mem_get hm
    rcases hns j nd hj with ⟨_, rfl⟩ | ⟨_, rfl⟩ | rfl <;> rfl
  · intro nd hm hu
    obtain ⟨j, hj⟩ := mem_get hm
    rcases hns j nd hj with ⟨_, rfl⟩ | ⟨_, rfl⟩ | rfl
    · rfl
    · rfl
    · cases hu
  · intro en' he
    rcases hes en' he with rfl | rfl <;> rfl
  · intro en' he hu
    rcases hes en' he with rfl | rfl
    · exact ⟨rfl, Int.le_refl _, Int.le_refl _, 0, linked false 1 anchorNode, rfl, by decide, rfl, rfl⟩
    · cases hu
  · intro i j a b hi hj ua ub _ _
    have one : ∀ (i : Nat) a, (⟨true, false, 0, false, 1, 0⟩ :: List.replicate en PEntry.zero : List PEntry)[i]? = some a → a.used = true → i = 0 := by
      intro i a hi hu
      cases i with
      | zero => rfl
      | succ i =>
        have hi' : (List.replicate en PEntry.zero)[i]? = some a := hi
        have := (List.mem_replicate.1 (List.mem_of_getElem? hi')).2
        subst this; cases hu
    rw [one i a hi ua, one j b hj ub]
end Go.Proofs.YtfccelbmacjifaaGreat

set_option linter.unusedSimpArgs false
namespace Go.Proofs.YtfccelbmacjifaaGreat
theorem fresh_qs {T N E L : Int} (hN : 0 ≤ N) (hE : 1 ≤ E) (hL : 0 ≤ L) : QS N E L (freshP 0 T N E L) [] N (E - 1) 0 := by
  obtain ⟨en, hen⟩ : ∃ en : Nat, E.toNat = en + 1 := ⟨E.toNat - 1, by omega⟩
  have hmem : (freshP 0 T N E L).mem = freshMem N.toNat (en + 1) := by show freshMem N.toNat E.toNat = _; rw [hen]
  have hrep : ∀ k : Nat, count (fun x : PNode => !x.used) (List.replicate k PNode.zero) = k := by
    intro k; unfold count; rw [List.filter_eq_self.2 (fun x hx => by rw [(List.mem_replicate.1 hx).2]; rfl)]; simp
  have hrepE : ∀ k : Nat, count (fun x : PEntry => !x.used) (List.replicate k PEntry.zero) = k := by
    intro k; unfold count; rw [List.filter_eq_self.2 (fun x hx => by rw [(List.mem_replicate.1 hx).2]; rfl)]; simp
  refine ⟨by rw [hmem]; exact fresh_qm _ _, ⟨rfl, Int.le_refl _, hL⟩, rfl, rfl, rfl, ?_, ?_, ?_⟩
  · intro t ht
    have := (List.mem_replicate.1 (show t ∈ List.replicate T.toNat PThread.zero from ht)).2
    subst this; exact ⟨rfl, rfl⟩
  · rw [hmem, fresh_mem]
    have h1 : (count (fun x : PNode => !x.used) (linked false 1 anchorNode :: endNode :: List.replicate N.toNat PNode.zero)) = N.toNat := hrep N.toNat
    have h2 : (count (fun x : PEntry => !x.used) (⟨true, false, 0, false, 1, 0⟩ :: List.replicate en PEntry.zero)) = en := hrepE en
    unfold PMem.room
    simp only
    rw [h1, h2]
    constructor <;> omega
  · rw [hmem, fresh_mem]
    simp only [List.length_cons, List.length_replicate]
    constructor <;> omega
theorem quiets {T N E L : Int} (hN : 0 ≤ N ∧ N ≤ 64) (hE : 1 ≤ E ∧ E ≤ 256) (hL : 0 ≤ L ∧ L ≤ 1099511627776) : Quiets T N E L (Qof N E L) := by
  refine ⟨⟨[], fresh_qs hN.1 hE.1 hL.1, rfl⟩, ?_, ?_, ?_, ?_⟩
  · rintro P ps n e c ⟨ch, h, rfl⟩
    exact h.rooms hN hE hL
  · rintro P ps n e c ⟨ch, h, rfl⟩ t ht
    exact (h.idle t ht).1
  · rintro P ps n e c i t kd ky va sp ⟨ch, h, rfl⟩ ht hp
    show Asked N E L P (ch.map (·.2)) n e c i t kd ky va sp
    have hr := h.rooms hN hE hL
    unfold properB checkOp at hp
    by_cases h123 : kd = 1 ∨ kd = 2 ∨ kd = 3
    · rw [if_pos h123] at hp
      have hk : 0 ≤ ky ∧ ky ≤ 1099511627776 := by
        by_cases hh : isIn ky 0 (2 ^ 40) = true
        · have := isIn_iff.1 hh; omega
        · rw [if_neg hh] at hp; simp at hp
      rcases h123 with rfl | rfl | rfl
      · rcases h.mem.split ky with ⟨a, b, hab, ha, hb⟩ | ⟨a, w, b, hab, hw, ha, hb⟩
        · exact h.insNew hN.1 ht ky va sp hk hab ha hb
        · have hq := h.mem
          rw [hab] at hq
          have hl := (hq.live (w, heads b) (mem_split (.inr (mem_edges_self w b)))).key
          refine h.noChange hN.1 ht 1 ky va sp (.inl rfl) hk.2 hab ha ?_ ?_ ?_
          · intro q hq
            rcases List.mem_cons.1 hq with rfl | hq
            · omega
            · have := hb q hq; omega
          · show ((P.mem.node w.1).key == ky) = _
            rw [hl.1]; simpa using hw
          · obtain ⟨v1, _, _⟩ := sheet_hit hw ha hb
            rw [hab]; unfold shUpd; rw [v1]; rfl
      · rcases h.mem.split ky with ⟨a, b, hab, ha, hb⟩ | ⟨a, w, b, hab, hw, ha, hb⟩
        · have hq := h.mem
          rw [hab] at hq
          have hg := hq.headGt hk.2 hb
          refine h.noChange hN.1 ht 2 ky va sp (.inr rfl) hk.2 hab ha (fun q hq => by have := hb q hq; omega) ?_ ?_
          · have : (P.mem.node (heads b)).key ≠ ky := by omega
            simpa using this
          · obtain ⟨v1, _, _⟩ := sheet_miss ha hb
            rw [hab]; unfold shUpd; rw [v1]; rfl
        · exact h.remOld hr.2.2.2.1.1 ht ky va sp hk hab hw ha hb
      · exact h.look hN.1 ht ky va sp hk
    · rw [if_neg h123] at hp
      by_cases h4 : kd = 4
      · subst h4
        rw [if_pos rfl] at hp
        have hs : spansOkX sp = true := by
          cases hh : spansOkX sp with
          | true => rfl
          | false => rw [hh] at hp; simp at hp
        exact h.scan hN.1 ht ky va sp hs
      · rw [if_neg h4] at hp; simp at hp
  · rintro P ps n e c ⟨ch, h, rfl⟩
    obtain ⟨h1, h2, h3⟩ := h.sweeps
    exact ⟨h1, h2, ch, h3, rfl⟩
end Go.Proofs.YtfccelbmacjifaaGreat

set_option linter.unusedSimpArgs false
namespace Go.Proofs.YtfccelbmacjifaaGreat
/-! ### A store with nothing under way -/
def path (M : PMem) : Nat → Int → List Int
  | 0, _ => []
  | f + 1, x => if Ld M x = 1 then [] else Ld M x :: path M f (Ld M x)
def Linked (M : PMem) : Int → List Int → Prop
  | x, [] => Ld M x = 1
  | x, y :: r => Ld M x = y ∧ y ≠ 1 ∧ Linked M y r
section
variable {C : Int → Prop} {i j : Nat} {t : PThread} {P : PSt} {L : Nat}
theorem Inv.path (h : Inv C P) : ∀ (f : Nat) (x : Int), C x → wp P.mem.ns.length P.mem C x ≤ f → Linked P.mem x (path P.mem f x) ∧ ∀ y ∈ path P.mem f x, C y ∧ y ≠ 0
  | 0, x, hx, hf => by have := h.wp_pos h.wm.len x; omega
  | f + 1, x, hx, hf => by
    obtain ⟨_, _, _, n4, n5, n6⟩ := h.n.mc x hx
    unfold Go.Proofs.YtfccelbmacjifaaGreat.path
    by_cases h1 : Ld P.mem x = 1
    · rw [if_pos h1]; exact ⟨h1, by simp⟩
    · rw [if_neg h1]
      have hc := n4.resolve_left h1
      have := h.wp_lt rfl (.inl hc) n5 n6
      obtain ⟨i1, i2⟩ := Inv.path h f (Ld P.mem x) hc (by omega)
      refine ⟨⟨rfl, h1, i1⟩, ?_⟩
      intro y hy
      rcases List.mem_cons.1 hy with rfl | hy
      · exact ⟨hc, n5⟩
      · exact i2 y hy
theorem Linked.next {M : PMem} : ∀ {l : List Int} {x z : Int}, Linked M x l → (z = x ∨ z ∈ l) → Ld M z ≠ 1 → Ld M z ∈ l
  | [], x, z, h, hz, h1 => by
    rcases hz with rfl | hz
    · exact absurd h h1
    · cases hz
  | y :: r, x, z, h, hz, h1 => by
    obtain ⟨e1, e2, e3⟩ := h
    rcases hz with rfl | hz
    · rw [e1]; simp
    · exact List.mem_cons_of_mem _ (Linked.next e3 (List.mem_cons.1 hz) h1)
/-- The chain as a list. -/
theorem Inv.chain (h : Inv C P) (hX : InvX C P) : ∃ l : List Int, Linked P.mem 0 l ∧ (∀ x, x ∈ l ↔ C x ∧ x ≠ 0) := by
  obtain ⟨h1, h2⟩ := h.path P.mem.ns.length 0 h.n.a0.1 (by have := wp_le (L := P.mem.ns.length) (by have := h.wm.len; omega) P.mem C 0; omega)
  refine ⟨_, h1, fun x => ⟨h2 x, ?_⟩⟩
  rintro ⟨hx, h0⟩
  have key : ∀ (n : Nat) (x : Int), C x → x ≠ 0 → (Ky P.mem x).toNat ≤ n → x ∈ Go.Proofs.YtfccelbmacjifaaGreat.path P.mem P.mem.ns.length 0 := by
    intro n
    induction n with
    | zero =>
      intro x hx h0 hn
      obtain ⟨y, y1, y2⟩ := hX.pr x hx h0
      have hx1 : x ≠ 1 := (h.gdLinks (.inl hx)).2
      by_cases hy : y = 0
      · rw [← y2]; exact h1.next (.inl hy) (by rw [y2]; exact hx1)
      · exfalso
        have := (h.n.mc y y1).2.2.2.2.2.resolve_left hy
        rw [y2] at this
        have := h.gd01 (.inl y1) hy
        omega
    | succ n ih =>
      intro x hx h0 hn
      obtain ⟨y, y1, y2⟩ := hX.pr x hx h0
      have hx1 : x ≠ 1 := (h.gdLinks (.inl hx)).2
      by_cases hy : y = 0
      · rw [← y2]; exact h1.next (.inl hy) (by rw [y2]; exact hx1)
      · have hlt := (h.n.mc y y1).2.2.2.2.2.resolve_left hy
        rw [y2] at hlt
        have := h.gd01 (.inl y1) hy
        have hm := ih y y1 hy (by omega)
        rw [← y2]; exact h1.next (.inr hm) (by rw [y2]; exact hx1)
  exact key _ x hx h0 (Nat.le_refl _)
theorem Inv.sorted (h : Inv C P) : ∀ (l : List Int) (x : Int), Linked P.mem x l → C x → (∀ y ∈ l, C y ∧ y ≠ 0) → l.Pairwise (fun a b => Ky P.mem a < Ky P.mem b) ∧ ∀ y ∈ l, x = 0 ∨ Ky P.mem x < Ky P.mem y
  | [], x, _, _, _ => ⟨List.Pairwise.nil, by simp⟩
  | y :: r, x, hl, hx, hc => by
    obtain ⟨e1, e2, e3⟩ := hl
    obtain ⟨yc, y0⟩ := hc y (by simp)
    obtain ⟨i1, i2⟩ := Inv.sorted h r y e3 yc (fun z hz => hc z (by simp [hz]))
    have hxy := (h.n.mc x hx).2.2.2.2.2
    rw [e1] at hxy
    refine ⟨List.Pairwise.cons (fun z hz => (i2 z hz).resolve_left y0) i1, ?_⟩
    intro z hz
    rcases List.mem_cons.1 hz with rfl | hz
    · exact hxy
    · rcases hxy with q | q
      · exact .inl q
      · right
        have := (i2 z hz).resolve_left y0
        omega
def spot (M : PMem) (x : Int) : Spot3 := (x.toNat, Ky M x, (M.node x).value)
theorem mem_edges_spot {M : PMem} (hn : ∀ x, (M.node x).used = true → 0 ≤ x) : ∀ (l : List Int) (x : Int), Linked M x l → (∀ y ∈ l, (M.node y).used = true) → ∀ q ∈ edges (spot M x) (l.map (spot M)), ∃ y, (y = x ∨ y ∈ l) ∧ q.1 = spot M y ∧ ((q.2 : Nat) : Int) = Ld M y
  | [], x, hl, _, q, hq => by
    obtain rfl : q = (spot M x, 1) := by simpa [edges] using hq
    exact ⟨x, .inl rfl, rfl, hl.symm⟩
  | y :: r, x, hl, hu, q, hq => by
    obtain ⟨e1, e2, e3⟩ := hl
    have hq' : q = (spot M x, (spot M y).1) ∨ q ∈ edges (spot M y) (r.map (spot M)) := by
      simpa [edges] using hq
    rcases hq' with rfl | hq'
    · refine ⟨x, .inl rfl, rfl, ?_⟩
      show ((y.toNat : Nat) : Int) = _
      have := hn y (hu y (by simp))
      rw [e1]; omega
    · obtain ⟨z, z1, z2, z3⟩ := mem_edges_spot hn r y e3 (fun z hz => hu z (by simp [hz])) q hq'
      refine ⟨z, .inr ?_, z2, z3⟩
      rcases z1 with rfl | z1
      · simp
      · simp [z1]
/-- Nothing is under way. -/
theorem Inv.quiet (h : Inv C P) (hX : InvX C P) (hi : ∀ t ∈ P.ts, t.busy = false) : ∃ l : List Int, (∀ x, x ∈ l ↔ C x ∧ x ≠ 0) ∧ l.Nodup ∧ QM P.mem P.clock (l.map (spot P.mem)) := by
  obtain ⟨l, hl, hm⟩ := h.chain hX
  have nob : ∀ {p : PThread → Prop}, (∀ t, p t → t.busy = true) → ¬ Ex P.ts p := by
    rintro p hp ⟨j, u, hj, hu⟩
    have := hi u (List.mem_of_getElem? hj)
    rw [hp u hu] at this; cases this
  have hus : ∀ x, (P.mem.node x).used = true → 0 ≤ x := fun x hx => (hasN_iff.1 (hasN_used hx)).1
  have hlc : ∀ y ∈ l, C y ∧ y ≠ 0 := fun y hy => (hm y).1 hy
  have hlu : ∀ y ∈ l, (P.mem.node y).used = true := fun y hy => (h.n.mc y (hlc y hy).1).1
  obtain ⟨s1, s2⟩ := h.sorted l 0 hl h.n.a0.1 hlc
  have hget : ∀ x, (P.mem.node x).used = true → P.mem.ns[x.toNat]? = some (P.mem.node x) := by
    intro x hx
    obtain ⟨k, e, rfl, h1, h2⟩ := node_at (hasN_used hx)
    rw [h2]; exact h1
  have hback : ∀ (k : Nat) nd, P.mem.ns[k]? = some nd → P.mem.node (k : Int) = nd := fun k nd hk => (node_get hk).1
  have hpd : ∀ x, Pd P.mem x = [] := by
    intro x
    cases hp : Pd P.mem x with
    | nil => rfl
    | cons d r =>
      exfalso
      refine nob ?_ (h.e.pd x d (by rw [hp]; simp))
      rintro t (q | q)
      · exact q.1
      · exact q.1
  have hcalm : ∀ en ∈ P.mem.es, en.pending = false := by
    intro en he
    cases hq : en.pending
    · rfl
    · exfalso
      have : en.dst ∈ Pd P.mem en.src := by
        unfold Pd
        exact List.mem_map.2 ⟨en, List.mem_filter.2 ⟨he, by simp [isPd, hq, h.wm.sd en he]⟩, rfl⟩
      rw [hpd] at this; cases this
  have hsd : ∀ en ∈ P.mem.es, en.used = true → Sd P.mem en.src en.stamp en.dst := fun en he hu => ⟨en, he, by simp [isSt, hu, hcalm en he, h.wm.sd en he], rfl, rfl⟩
  have hho : ∀ x, Us P.mem x → Ho P.mem x = -1 := by
    intro x hx
    rcases h.o.ho x hx with q | ⟨k, hk, q⟩
    · exact q
    · exfalso
      have hu : P.ts[k]? = some P.ts[k] := List.getElem?_eq_getElem hk
      have := ((h.th k _ hu).hd x hx).1 q
      rw [hi _ (List.getElem_mem hk)] at this
      exact nomatch this.1
  have hdead : ∀ x, C x → (P.mem.node x).dead = false := by
    intro x hx
    cases hd : (P.mem.node x).dead
    · rfl
    · exact (nob (fun t q => q.1) (h.o.ki x hd hx)).elim
  have hC0 : ∀ y, (y = 0 ∨ y ∈ l) → C y := by
    rintro y (rfl | hy)
    · exact h.n.a0.1
    · exact (hlc y hy).1
  have hedge : ∀ q ∈ edges anchor3 (l.map (spot P.mem)), ∃ y, C y ∧ q.1 = spot P.mem y ∧ ((q.2 : Nat) : Int) = Ld P.mem y := by
    intro q hq
    have ha : anchor3 = spot P.mem 0 := by unfold spot anchor3; simp only [Ky]; rw [hX.k0.1, hX.k0.2]; rfl
    rw [ha] at hq
    obtain ⟨y, y1, y2, y3⟩ := mem_edges_spot hus l 0 hl hlu q hq
    exact ⟨y, hC0 y y1, y2, y3⟩
  have hnd : l.Nodup := s1.imp (fun hab e => by rw [e] at hab; omega)
  refine ⟨l, hm, hnd, ⟨?_, ?_, ?_, ?_, ?_, ?_, ?_, ?_, ?_, hcalm, ?_, ?_⟩⟩
  · obtain ⟨_, b2, b3, b4, b5, b6⟩ := h.n.a1
    exact ⟨P.mem.node 1, hget 1 b2, b2, b4, b5, hho 1 b2, b3, b6⟩
  · intro q hq
    obtain ⟨y, y1, y2, y3⟩ := hedge q hq
    obtain ⟨n1, n2, n3, _⟩ := h.n.mc y y1
    refine ⟨P.mem.node y, by rw [y2]; exact hget y n1, n1, hdead y y1, n3, hho y n1, n2, by rw [y2]; rfl, by rw [y2]; rfl, y3.symm⟩
  · intro q hq
    obtain ⟨y, y1, y2, y3⟩ := hedge q hq
    obtain ⟨s, d, e, he, he1, _⟩ := hX.en y (.inl y1)
    obtain ⟨m, q1, q2, q3⟩ := maxE (isSt y false) P.mem.es ⟨e, he, he1⟩
    have hy0 := hus y (h.n.mc y y1).1
    have q2' := q2
    simp only [isSt, Bool.and_eq_true, beq_iff_eq] at q2'
    refine ⟨m, q1, q2'.1, ?_, ?_, ?_⟩
    · rw [y2, q2'.2.2.1]
      show y = ((y.toNat : Nat) : Int)
      omega
    · rw [y3]
      rcases h.e.nw y m.stamp m.dst ⟨m, q1, q2, rfl, rfl⟩ with z | ⟨s', z1, z2⟩
      · exact z
      · exfalso
        rcases z2 with ⟨d', e', he', h1', rfl, _⟩ | z2
        · have := q3 e' he' h1'; omega
        · exact nob (fun t q => q.1) z2
    · intro e' he' hu hs
      refine q3 e' he' ?_
      rw [y2] at hs
      have : e'.src = y := by rw [hs]; show ((y.toNat : Nat) : Int) = y; omega
      simp [isSt, hu, hcalm e' he', this, h.wm.sd e' he']
  · rw [List.pairwise_map]
    exact s1
  · intro q hq
    obtain ⟨y, hy, rfl⟩ := List.mem_map.1 hq
    obtain ⟨y1, y2⟩ := hlc y hy
    exact h.gd01 (.inl y1) y2
  · have h2 : ∀ y ∈ l, 2 ≤ y := by
      intro y hy
      obtain ⟨y1, y2⟩ := hlc y hy
      have := hus y (hlu y hy)
      have := (h.gdLinks (.inl y1)).2
      omega
    refine List.nodup_cons.2 ⟨?_, List.nodup_cons.2 ⟨?_, ?_⟩⟩
    · intro hh
      rcases List.mem_cons.1 hh with e | hh
      · cases e
      · simp only [List.map_map, List.mem_map] at hh
        obtain ⟨y, hy, e⟩ := hh
        have := h2 y hy
        have e' : y.toNat = 0 := e
        omega
    · intro hh
      simp only [List.map_map, List.mem_map] at hh
      obtain ⟨y, hy, e⟩ := hh
      have := h2 y hy
      have e' : y.toNat = 1 := e
      omega
    · rw [List.map_map]
      refine List.Pairwise.map _ ?_ (List.Pairwise.and_mem.1 hnd)
      intro a b hab e
      have e' : a.toNat = b.toNat := e
      have := h2 a hab.1
      have := h2 b hab.2.1
      exact hab.2.2 (by omega)
  · intro k nd hk hu
    have hn := hback k nd hk
    rw [← hn] at hu ⊢
    rcases h.o.us k hu with q | q | q | q
    · left
      have : k = 1 := by omega
      subst this; simp
    · left
      by_cases h0 : (k : Int) = 0
      · have : k = 0 := by omega
        subst this; simp
      · simp only [List.map_map, List.mem_cons, List.mem_map]
        exact .inr (.inr ⟨k, (hm k).2 ⟨q, h0⟩, by show ((k : Int)).toNat = k; omega⟩)
    · by_cases hc : C k
      · have := hdead k hc
        simp only [De] at q; rw [this] at q; cases q
      · right
        refine ⟨?_, q⟩
        cases hr : (P.mem.node k).retired
        · exact (nob (fun t q => q.1) (h.o.ou k q hc hr)).elim
        · rfl
    · exact (nob (fun t q => q.1) q).elim
  · intro nd hm' hu
    obtain ⟨k, hk⟩ := List.mem_iff_getElem?.1 hm'
    have hn := hback k nd hk
    rw [← hn] at hu ⊢
    rw [h.wm.un k hu]; rfl
  · intro nd hm' hu
    obtain ⟨k, hk⟩ := List.mem_iff_getElem?.1 hm'
    have hn := hback k nd hk
    rw [← hn] at hu ⊢
    exact hho k hu
  · intro en he hu
    obtain ⟨m1, m2, m3, m4, _⟩ := h.e.ms _ _ _ (hsd en he hu)
    have h0 := hus _ m1
    refine ⟨h.wm.sd en he, m3, m4, en.src.toNat, P.mem.node en.src, by omega, ?_, hget _ m1, m1⟩
    intro e; exact m2 (by omega)
  · intro a b x y ha hb ux uy e1 e2
    exact hX.uq a b x y ha hb (by unfold stp; rw [ux, hcalm x (List.mem_of_getElem? ha)]; rfl) (by unfold stp; rw [uy, hcalm y (List.mem_of_getElem? hb)]; rfl) e1 e2
end
end Go.Proofs.YtfccelbmacjifaaGreat

set_option linter.unusedSimpArgs false
namespace Go.Proofs.YtfccelbmacjifaaGreat
/-! ### The player's threads, step by step -/
/-- A step turns one thread; its operation stays. -/
def SameOp (t t' : PThread) : Prop := t'.work.kind = t.work.kind ∧ t'.work.key = t.work.key ∧ t'.work.value = t.work.value ∧ t'.work.spans = t.work.spans
section
variable {C C' : Int → Prop} {i j : Nat} {t : PThread} {P : PSt} {L : Nat} {D D' : PlD}
theorem step_work (hk : P.kind = 0) (ht : P.ts[i]? = some t) (hb : t.busy = true) : ∃ t', (P.step i t).1.ts = P.ts.set i t' ∧ ((P.step i t).2 = 3 → t'.busy = false) ∧ ((P.step i t).2 ≠ 3 → t'.busy = true ∧ SameOp t t' ∧ t'.hasEnded = t.hasEnded ∧ t'.last = t.last) := by
  have same : P.ts.set i t = P.ts := by
    apply List.ext_getElem?
    intro j
    rw [List.getElem?_set]
    split
    · next e => subst e; split <;> simp_all
    · rfl
  have fin : ∀ (Q : PSt) (k : PWork), Q.ts = P.ts → k.kind = t.work.kind → k.key = t.work.key → k.value = t.work.value → k.spans = t.work.spans → ∀ n : Int, n ≠ 3 → ∃ t', (Q.setW i k, n).1.ts = P.ts.set i t' ∧ ((Q.setW i k, n).2 = 3 → t'.busy = false) ∧ ((Q.setW i k, n).2 ≠ 3 → t'.busy = true ∧ SameOp t t' ∧ t'.hasEnded = t.hasEnded ∧ t'.last = t.last) := by
    intro Q k hQ h1 h2 h3 h4 n hn
    refine ⟨{ t with work := k }, ?_, fun e => absurd e hn, fun _ => ⟨hb, ⟨h1, h2, h3, h4⟩, rfl, rfl⟩⟩
    show (Q.setW i k).ts = _
    rw [setW_to Q (t := t) (by rw [hQ]; exact ht) k, hQ]
  have stay : ∀ n : Int, n ≠ 3 → ∃ t', (P, n).1.ts = P.ts.set i t' ∧ ((P, n).2 = 3 → t'.busy = false) ∧ ((P, n).2 ≠ 3 → t'.busy = true ∧ SameOp t t' ∧ t'.hasEnded = t.hasEnded ∧ t'.last = t.last) :=
    fun n hn => ⟨t, same.symm, fun e => absurd e hn, fun _ => ⟨hb, ⟨rfl, rfl, rfl, rfl⟩, rfl, rfl⟩⟩
  unfold PSt.step
  split
  · exact ⟨_, rfl, fun e => absurd e (by show ¬ (1 : Int) = 3; decide), fun _ => ⟨hb, ⟨rfl, rfl, rfl, rfl⟩, rfl, rfl⟩⟩
  · exact ⟨_, rfl, fun e => absurd e (by show ¬ (1 : Int) = 3; decide), fun _ => ⟨hb, ⟨rfl, rfl, rfl, rfl⟩, rfl, rfl⟩⟩
  · exact ⟨_, rfl, fun e => absurd e (by show ¬ (1 : Int) = 3; decide), fun _ => ⟨hb, ⟨rfl, rfl, rfl, rfl⟩, rfl, rfl⟩⟩
  · exact ⟨_, rfl, fun _ => rfl, fun e => absurd rfl e⟩
  · split
    · unfold PSt.read
      simp only
      split
      · exact stay 2 (by decide)
      · split
        · refine fin P _ rfl ?_ ?_ ?_ ?_ 1 (by decide) <;> (unfold PSt.lookUp; split <;> rfl)
        · refine fin P _ rfl ?_ ?_ ?_ ?_ 1 (by decide) <;> (unfold PSt.scan; simp only; split <;> rfl)
    · unfold PSt.update
      split
      · refine fin P _ rfl ?_ ?_ ?_ ?_ 1 (by decide) <;> (unfold PSt.walk; split <;> rfl)
      · unfold PSt.lock
        split
        · split
          · refine fin _ _ ?_ ?_ ?_ ?_ ?_ 1 (by decide) <;> rfl
          · exact stay 2 (by decide)
        · refine fin _ _ ?_ ?_ ?_ ?_ ?_ 1 (by decide) <;> rfl
      · unfold PSt.check
        split
        · refine fin _ _ ?_ ?_ ?_ ?_ ?_ 1 (by decide) <;> rfl
        · split
          · refine fin _ _ ?_ ?_ ?_ ?_ ?_ 1 (by decide) <;> rfl
          · refine fin _ _ ?_ ?_ ?_ ?_ ?_ 1 (by decide) <;> rfl
      · unfold PSt.prepare
        split
        · refine fin _ _ ?_ ?_ ?_ ?_ ?_ 1 (by decide) <;> rfl
        · have hpp : ∀ pp : PMem × PWork, pp.2.kind = t.work.kind ∧ pp.2.key = t.work.key ∧ pp.2.value = t.work.value ∧ pp.2.spans = t.work.spans → ∃ t', (((P.setM pp.1).setW i { pp.2 with next := 8 }, (1 : Int)) : PSt × Int).1.ts = P.ts.set i t' ∧ (((((P.setM pp.1).setW i { pp.2 with next := 8 }, (1 : Int)) : PSt × Int)).2 = 3 → t'.busy = false) ∧ (((((P.setM pp.1).setW i { pp.2 with next := 8 }, (1 : Int)) : PSt × Int)).2 ≠ 3 → t'.busy = true ∧ SameOp t t' ∧ t'.hasEnded = t.hasEnded ∧ t'.last = t.last) := by
            rintro pp ⟨h1, h2, h3, h4⟩
            exact fin (P.setM pp.1) { pp.2 with next := 8 } rfl h1 h2 h3 h4 1 (by decide)
          refine hpp (if t.work.kind = 1 then P.prepareInsert t.work else P.prepareRemove t.work) ?_
          split
          · unfold PSt.prepareInsert
            simp only [if_pos hk]
            refine ⟨?_, ?_, ?_, ?_⟩ <;> first | rfl | trivial
          · unfold PSt.prepareRemove
            simp only [if_pos hk]
            refine ⟨?_, ?_, ?_, ?_⟩ <;> first | rfl | trivial
      · unfold PSt.take
        split
        · refine fin _ _ ?_ ?_ ?_ ?_ ?_ 1 (by decide) <;> rfl
        · simp only
          split
          · refine fin _ _ ?_ ?_ ?_ ?_ ?_ 1 (by decide) <;> rfl
          · refine fin _ _ ?_ ?_ ?_ ?_ ?_ 1 (by decide) <;> rfl
      · refine fin _ _ ?_ ?_ ?_ ?_ ?_ 1 (by decide) <;> rfl
      · refine fin _ _ ?_ ?_ ?_ ?_ ?_ 1 (by decide) <;> rfl
      · refine fin _ _ ?_ ?_ ?_ ?_ ?_ 1 (by decide) <;> rfl
      · refine fin _ _ ?_ ?_ ?_ ?_ ?_ 1 (by decide) <;> rfl
      · exact stay 1 (by decide)
/-- The player's own list of the busy ones stays right. -/
theorem ok_step (hk : D.P.kind = 0) (hok : D.ok) (ht : D.P.ts[i]? = some t) (hb : t.busy = true) (hs : Stepped D i t D') : D'.ok := by
  obtain ⟨t', h1, h2, h3⟩ := step_work hk ht hb
  show D'.bs = D'.P.ts.map (·.busy)
  rw [hs.P, h1, hs.bs, List.map_set]
  have hok' : D.bs = D.P.ts.map (·.busy) := hok
  split
  · next e => rw [h2 e, hok']
  · next e =>
    rw [(h3 e).1, hok']
    apply List.ext_getElem?
    intro j
    rw [List.getElem?_set]
    split
    · next e => subst e; rw [List.getElem?_map, ht]; simp [hb]; exact (List.getElem?_eq_some_iff.1 ht).1
    · rfl
def bu (t : PThread) : Bool := t.busy && decide (t.work.kind = 1 ∨ t.work.kind = 2)
/-- At most so many moves are left. -/
def Pot (N : Nat) (D : PlD) (n : Nat) : Prop := ∃ C, Inv C D.P ∧ D.P.mem.ns.length = N + 2 ∧ Phi (N + 2) C D.P ≤ n
theorem Pot.move {N n : Nat} (h : Pot N D n) (ht : D.P.ts[i]? = some t) (hb : t.busy = true) (hs : Stepped D i t D') (hm : (D.P.step i t).2 ≠ 2) : ∃ n', n' + 1 ≤ n ∧ Pot N D' n' := by
  obtain ⟨C, h1, h2, h3⟩ := h
  have hd := h1.drops h2 ht hb hm
  refine ⟨Phi (N + 2) (nextC C t) (D.P.step i t).1, by omega, nextC C t, ?_, ?_, ?_⟩
  · rw [hs.P]; exact h1.step ht hb
  · rw [hs.P, step_len h1.kind]; exact h2
  · rw [hs.P]; exact Nat.le_refl _
theorem Pot.wait {N n : Nat} (h : Pot N D n) (ht : D.P.ts[i]? = some t) (hb : t.busy = true) (hs : Stepped D i t D') (hm : (D.P.step i t).2 = 2) : Pot N D' n ∧ D'.P = D.P ∧ D'.bs = D.bs := by
  obtain ⟨C, h1, h2, h3⟩ := h
  have hw := (h1.waits ht hb hm).1
  have hP : D'.P = D.P := by rw [hs.P, hw]
  refine ⟨⟨C, ?_, ?_, ?_⟩, hP, ?_⟩
  · rw [hP]; exact h1
  · rw [hP]; exact h2
  · rw [hP]; exact h3
  · rw [hs.bs, if_neg (by omega)]
/-- What is kept, that the player's acts may be followed: J is closed under them. -/
structure Plays (f : Nat) (T N E L : Int) (J : PlD → Prop) : Prop where
  inv : ∀ {D}, J D → ∃ C, Inv C D.P
  len : ∀ {D}, J D → D.P.mem.ns.length = N.toNat + 2
  ok : ∀ {D}, J D → D.ok
  cfg : ∀ {D}, J D → D.k = 0 ∧ D.t = T ∧ D.n = N ∧ D.e = E ∧ D.l = L
  step : ∀ {D D' : PlD} {i : Nat} {t : PThread}, J D → Fit D.N D.P → D.P.ts[i]? = some t → t.busy = true → f ≤ i → Stepped D i t D' → J D'
  begin : ∀ {D D' : PlD} {i : Nat} {t : PThread} {o : OpV}, J D → D.P.ts[i]? = some t → f ≤ i → Begun D i t o D' → J D'
  sweep : ∀ {D : PlD} (L' : ZLay), J D → J { D with L := L', P := D.P.doSweep.1 }
  low : ∀ {D : PlD} {i : Nat} {t : PThread}, J D → i < f → D.P.ts[i]? = some t → t.busy = true → t.work.kind = 3 ∨ t.work.kind = 4
/-- Sizes. -/
def Sz (b : Nat) (D : PlD) : Prop := D.N ≤ b ∧ D.deeds.length ≤ b ∧ 0 ≤ D.puts ∧ D.puts ≤ b ∧ 0 ≤ D.takes ∧ D.takes ≤ b
theorem Sz.mono {b b' : Nat} (h : Sz b D) (hb : b ≤ b') : Sz b' D := by unfold Sz at *; omega
theorem Sz.step {b : Nat} (h : Sz b D) (hs : Stepped D i t D') : Sz (b + 1) D' := by
  have hd : D'.deeds.length ≤ D.deeds.length + 1 := by
    by_cases e : (D.P.step i t).2 = 3
    · obtain ⟨av, o, f, _, _, q⟩ := hs.deeds.2 e
      rw [q]; simp
    · rw [hs.deeds.1 e]; omega
  unfold Sz at *
  rw [hs.N, hs.cnt.1, hs.cnt.2]; omega
theorem Sz.begin {b : Nat} {o : OpV} (h : Sz b D) (hs : Begun D i t o D') : Sz (b + 1) D' := by
  have hc : (D'.puts = D.puts ∨ D'.puts = D.puts + 1) ∧ (D'.takes = D.takes ∨ D'.takes = D.takes + 1) := by
    by_cases hh : t.busy = true ∨ properB o.kind o.key o.spans = false
    · obtain ⟨_, _, _, _, q1, q2⟩ := hs.no hh; exact ⟨.inl q1, .inl q2⟩
    · simp only [not_or, Bool.not_eq_true, Bool.not_eq_false] at hh
      obtain ⟨_, _, _, _, q1, q2⟩ := hs.yes hh.1 hh.2
      rw [q1, q2]
      exact ⟨by split <;> omega, by split <;> omega⟩
  unfold Sz at *
  rw [hs.N, hs.deeds]; omega
end
end Go.Proofs.YtfccelbmacjifaaGreat

