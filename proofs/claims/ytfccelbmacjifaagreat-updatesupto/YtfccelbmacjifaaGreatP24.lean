import Derived.Test.YtfccelbmacjifaaGreatP11
import Derived.Test.YtfccelbmacjifaaGreatP13
import Derived.Test.YtfccelbmacjifaaGreatP16
import Derived.Test.YtfccelbmacjifaaGreatP17
import Derived.Test.YtfccelbmacjifaaGreatP23
import Derived.WalkLawsBesides
set_option linter.unusedSimpArgs false
namespace Go.Proofs.YtfccelbmacjifaaGreat
open Go.RowKit
/-! ### The new stores are in relation -/
theorem stOf_one (x : PEntry) (k : Nat) (n : Int) (s : Bool) : stOf (x :: List.replicate k PEntry.zero) n s = if isSt n s x then [x.stamp] else [] := by
  unfold stOf
  rw [List.filter_cons]
  have : (List.replicate k PEntry.zero).filter (isSt n s) = [] := by
    rw [List.filter_eq_nil_iff]
    intro a ha
    rw [(List.mem_replicate.1 ha).2, isSt_zero]; simp
  rw [this]
  split <;> rfl
theorem pdOf_one (x : PEntry) (k : Nat) (n : Int) (s : Bool) (hx : x.pending = false) : pdOf (x :: List.replicate k PEntry.zero) n s = [] := by
  unfold pdOf
  have : (x :: List.replicate k PEntry.zero).filter (isPd n s) = [] := by
    rw [List.filter_eq_nil_iff]
    intro a ha
    rcases List.mem_cons.1 ha with rfl | ha
    · simp [isPd, hx]
    · rw [(List.mem_replicate.1 ha).2, isPd_zero]; simp
  rw [this]; rfl
theorem fresh_core (t n l : Int) (e : Nat) (hn : 0 ≤ n) : Core id (freshMem n.toNat (e + 1)) (freshB 0 t n ((e : Int) + 1) l) := by
  rw [freshMem_eq]
  have hl : ∀ i, (freshB 0 t n ((e : Int) + 1) l).live i → i = 0 ∨ i = 1 := by
    intro i hi
    have := hi.lt
    simp [freshB] at this
    omega
  have ha0 : (freshB 0 t n ((e : Int) + 1) l).live 0 := ⟨anchorB, rfl, rfl⟩
  have ha1 : (freshB 0 t n ((e : Int) + 1) l).live 1 := ⟨endB, rfl, rfl⟩
  refine ⟨?_, ?_, rfl, rfl, ha0, ha1, ?_, fun i j _ _ h => h, ?_, ?_, ?_, ?_, ?_, ?_⟩
  · simp [freshB]; omega
  · simp [freshB]
  · intro i x hx hf
    rcases hl i ⟨x, hx, hf⟩ with rfl | rfl
    · obtain rfl : anchorB = x := Option.some.inj hx
      refine ⟨_, rfl, rfl, rfl, rfl, rfl, rfl, rfl, ?_, rfl, ?_⟩
      · intro s hs
        cases s
        · rfl
        · exact absurd hs (by decide)
      · intro h; exact absurd h (by decide)
    · obtain rfl : endB = x := Option.some.inj hx
      refine ⟨_, rfl, rfl, rfl, rfl, rfl, rfl, rfl, ?_, rfl, ?_⟩
      · intro s hs
        cases s <;> exact absurd hs (by decide)
      · intro h; exact absurd h (by decide)
  · intro k m hm hu
    match k, hm with
    | 0, _ => exact ⟨0, ha0, rfl⟩
    | 1, _ => exact ⟨1, ha1, rfl⟩
    | k + 2, hm =>
      simp only [List.getElem?_cons_succ] at hm
      have := (List.mem_replicate.1 (List.mem_of_getElem? hm)).2
      rw [this] at hu; cases hu
  · intro m hm hu
    simp only [List.mem_cons] at hm
    rcases hm with rfl | rfl | hm
    · cases hu
    · cases hu
    · exact (List.mem_replicate.1 hm).2
  · intro m hm hu
    simp only [List.mem_cons] at hm
    rcases hm with rfl | hm
    · cases hu
    · exact (List.mem_replicate.1 hm).2
  · intro m hm hu
    simp only [List.mem_cons] at hm
    rcases hm with rfl | hm
    · exact ⟨0, anchorB, rfl, rfl, rfl, show b2i false < ((linksOf 0 0 anchorB : Nat) : Int) by decide⟩
    · rw [(List.mem_replicate.1 hm).2] at hu; cases hu
  · intro i x s hx hf
    rcases hl i ⟨x, hx, hf⟩ with rfl | rfl
    · obtain rfl : anchorB = x := Option.some.inj hx
      rw [stOf_one]
      cases s <;> exact List.Perm.refl _
    · obtain rfl : endB = x := Option.some.inj hx
      rw [stOf_one]
      cases s <;> exact List.Perm.refl _
  · intro i x s hx hf
    rw [pdOf_one _ _ _ _ rfl]
    rcases hl i ⟨x, hx, hf⟩ with rfl | rfl
    · obtain rfl : anchorB = x := Option.some.inj hx
      cases s <;> rfl
    · obtain rfl : endB = x := Option.some.inj hx
      cases s <;> rfl
theorem fresh_inv (t n e l : Int) (ht : 1 ≤ t ∧ t ≤ 8) (hl : 0 ≤ l ∧ l ≤ 1099511627776) : InvU (freshB 0 t n e l) := by
  have hts : ∀ (i : Nat) w, (freshB 0 t n e l).ts[i]? = some w → w = newB := by
    intro i w hw
    exact (List.mem_replicate.1 (List.mem_of_getElem? (show (List.replicate t.toNat newB)[i]? = some w from hw))).2
  have hpub : ∀ p, (freshB 0 t n e l).live p → Pub (freshB 0 t n e l) p := fun p hp => ⟨hp, fun i w hw hb => by rw [hts i w hw] at hb; cases hb⟩
  have ha0 : (freshB 0 t n e l).live 0 := ⟨anchorB, rfl, rfl⟩
  have ha1 : (freshB 0 t n e l).live 1 := ⟨endB, rfl, rfl⟩
  have hlen : (freshB 0 t n e l).ts.length = t.toNat := by simp [freshB]
  have hsp : ∀ (p : Nat) x, (freshB 0 t n e l).spots[p]? = some x → (p = 0 ∧ x = anchorB) ∨ (p = 1 ∧ x = endB) := by
    intro p x hx
    match p, hx with
    | 0, hx => exact .inl ⟨rfl, (Option.some.inj hx).symm⟩
    | 1, hx => exact .inr ⟨rfl, (Option.some.inj hx).symm⟩
    | p + 2, hx => simp [freshB] at hx
  refine ⟨rfl, ?_, by rw [hlen]; omega, ⟨by show (0 : Int) ≤ 0; omega, hl.1⟩, hl.2, hpub _ ha0, hpub _ ha1, rfl, ?_, ?_, ?_, ?_, ?_, ?_, ?_, ?_, ?_, ?_, ?_⟩
  · rw [hlen]; show t = _; omega
  · intro p x hx
    rcases hsp p x hx with ⟨rfl, rfl⟩ | ⟨rfl, rfl⟩ <;> rfl
  · intro p hp hp1
    obtain ⟨x, hx, _⟩ := hp
    rcases hsp p x hx with ⟨rfl, rfl⟩ | ⟨rfl, rfl⟩
    · exact ⟨hpub _ ha1, by show (1 : Nat) ≠ 0; omega⟩
    · exact absurd rfl hp1
  · intro p hp
    have hx := List.getElem?_eq_getElem hp
    rcases hsp p _ hx with ⟨h0, h1⟩ | ⟨h0, h1⟩
    · subst h0; exact ha1.lt
    · subst h0; exact ha0.lt
  · intro p x hx
    rcases hsp p x hx with ⟨rfl, rfl⟩ | ⟨rfl, rfl⟩ <;> exact .inl rfl
  · intro i w p hw hp
    rw [hts i w hw] at hp; simp [newB, BThread.zero] at hp
  · intro p x s hx _ ho
    rcases hsp p x hx with ⟨rfl, rfl⟩ | ⟨rfl, rfl⟩ <;> cases ho
  · intro i w p hw hb; rw [hts i w hw] at hb; cases hb
  · intro i j w v p hw hv hb; rw [hts i w hw] at hb; cases hb
  · intro i w hw _; rw [hts i w hw]; rfl
  · intro i w hw; rw [hts i w hw]; rfl
  · intro i w hw hb; rw [hts i w hw] at hb; cases hb
theorem fresh_rel (t n e l : Int) (ht : 1 ≤ t ∧ t ≤ 8) (hn : 0 ≤ n) (he : 1 ≤ e) (hl : 0 ≤ l ∧ l ≤ 1099511627776) : Rel id (freshP 0 t n e l) (freshB 0 t n e l) := by
  obtain ⟨e', rfl⟩ : ∃ e' : Nat, e = (e' : Int) + 1 := ⟨(e - 1).toNat, by omega⟩
  refine ⟨fresh_inv t n _ l ht hl, ?_, rfl, rfl, rfl, by simp [freshP, freshB], ?_⟩
  · have := fresh_core t n l e' hn
    have h2 : ((e' : Int) + 1).toNat = e' + 1 := by omega
    show Core id (freshMem n.toNat ((e' : Int) + 1).toNat) _
    rw [h2]; exact this
  · intro i u w hu hw
    have h1 := (List.mem_replicate.1 (List.mem_of_getElem? (show (List.replicate t.toNat newB)[i]? = some w from hw))).2
    have h2 := (List.mem_replicate.1 (List.mem_of_getElem? (show (List.replicate t.toNat PThread.zero)[i]? = some u from hu))).2
    subst h1; subst h2
    exact ⟨rfl, rfl, rfl, fun hb => by cases hb⟩
theorem fresh_big (t n e l : Int) (hn : n ≤ 64) (he : e ≤ 256) : Big 0 (freshB 0 t n e l) := by
  refine ⟨by simp [freshB], by simp [freshB], ?_, hn, he⟩
  intro p x s hx
  match p, hx with
  | 0, hx => obtain rfl : anchorB = x := Option.some.inj hx; cases s <;> simp [anchorB, upd]
  | 1, hx => obtain rfl : endB = x := Option.some.inj hx; simp [endB]
  | p + 2, hx => simp [freshB] at hx

section
variable {f : Nat → Nat} {P : PSt} {R : BSt}
theorem Rel.stOk (h : Rel f P R) {N : Nat} (hB : Big N R) (hN : N ≤ 2 ^ 39) : StOk R := by
  have h1 := h.inv.s1.1.lt
  have hs := hB.sp
  refine ⟨h.inv.kind, by omega, by omega, ?_, ?_, ?_, h.inv.nowb, ?_⟩
  · intro k hk
    obtain ⟨a, b, c, d⟩ := h.core.roomBd k hk
    have := hB.nd
    have := hB.en
    have := h.core.nlen
    refine ⟨?_, ?_, ?_, ?_⟩ <;> omega
  · have := h.inv.clk; have := h.inv.lim; omega
  · have := hB.log; omega
  · intro k
    cases hx : R.spots[k]? with
    | none => simp [BSt.sp, hx, BSpot.zero]
    | some x => rw [sp_of hx]; have := hB.st k x false hx; omega
theorem ThU.updOk {w : BThread} (h : ThU R w) : UpdOk R w := ⟨h.bx, h.xs, h.sd, h.bc, h.bs, h.bw, h.hw, h.wl, h.bn, by have := h.nl; omega⟩
theorem Rel.pUpd (h : Rel f P R) {i : Nat} {t : PThread} {w : BThread} (ht : P.ts[i]? = some t) (hw : R.ts[i]? = some w) (hb : w.busy = true) : PUpd P t.work := by
  obtain ⟨hU, hW⟩ := h.one ht hw hb
  exact ⟨h.kind.trans h.inv.kind, hW.ml, by rw [hW.locks]; have := hU.hw; have := hU.wl; omega, by rw [h.clock]; exact h.inv.clk.1, by rw [h.limit]; exact h.inv.lim⟩
theorem Rel.answer (h : Rel f P R) (i : Int) : P.answer i = R.answer i ∧ (R.answer i).1.spans = [] := by
  have hthr : (P.ts.length : Int) = R.threads := by rw [h.tlen, h.inv.thl]
  unfold PSt.answer BSt.answer
  rw [hthr]
  cases hI : isIn i 0 (R.threads - 1)
  · exact ⟨rfl, rfl⟩
  · have hb := isIn_iff.1 hI
    obtain ⟨j, rfl⟩ := Int.eq_ofNat_of_zero_le hb.1
    have hj : j < R.ts.length := by have := h.inv.thl; omega
    obtain ⟨t, w, ht, hw, e1, e2⟩ := h.get hj
    have hT := h.th j t w ht hw
    simp only [Int.toNat_natCast, e1, e2, if_true]
    rw [hT.has, hT.last]
    refine ⟨rfl, ?_⟩
    split
    · exact h.inv.lst j w hw
    · rfl
end
end Go.Proofs.YtfccelbmacjifaaGreat

set_option linter.unusedSimpArgs false
namespace Go.Proofs.YtfccelbmacjifaaGreat
open Go.RowKit
/-! ### The two stores side by side: the program's in zone 0, the document's in zone 1 -/
def pv (b : Nat) : Value := .pointer (some ⟨b, 0, none⟩)
/-- Behind a call on the program's side, the same call on the document's. -/
def Then (own : Own) (w w1 : World) (fn : Nat) (args : Array Value) (v : Value) (Q : Own → World → Prop) : Prop :=
  Fr (fun k => (own k).z ≤ 1) w w1 ∧ ∀ (w1' : World) (S : Nat → Prop), Fr S w1 w1' → (∀ k, S k → k < w.heap.size ∧ 2 ≤ (own k).z) →
    Calls Tryz.prog fn args w1' fun e w2 => e = .returned v ∧ Fr (fun k => (own k).z ≤ 1 ∨ w.heap.size ≤ k) w1' w2 ∧ ∃ own2, Ext own own2 w ∧ Q own2 w2
/-- What the statements want of two stores that go side by side. -/
structure Sides (J : Own → World → Nat → Nat → Nat → Prop) (ok : Int → Prop) : Prop where
  fr : ∀ {own own' : Own} {w w' : World} {x y N : Nat} {S : Nat → Prop}, J own w x y N → Fr S w w' → Ext own own' w → (∀ k, k < w.heap.size → S k → 2 ≤ (own k).z) → J own' w' x y N
  lt : ∀ {own : Own} {w : World} {x y N : Nat}, J own w x y N → (own x).z = 0 ∧ (own y).z = 1
  step : ∀ {own : Own} {w : World} {x y N : Nat}, J own w x y N → N < 2 ^ 39 → ∀ i : Int, ∃ n er : Int, Calls Tryz.prog 68 #[pv x, .int .i64 i] w fun e w1 =>
    e = .returned (.tuple #[.int .i64 n, .int .i64 er]) ∧ Then own w w1 69 #[pv y, .int .i64 i] (.tuple #[.int .i64 n, .int .i64 er]) (fun own2 w2 => J own2 w2 x y (N + 1))
  answer : ∀ {own : Own} {w : World} {x y N : Nat}, J own w x y N → ∀ i : Int, ∃ (a : BAns) (er : Int),
    (∀ w', Fr (fun _ => False) w w' → Calls Tryz.prog 70 #[pv x, .int .i64 i] w' fun r w'' => r = .returned (.tuple #[ansVal a, .int .i64 er]) ∧ Fr (fun _ => False) w' w'') ∧
    (∀ w', Fr (fun _ => False) w w' → Calls Tryz.prog 71 #[pv y, .int .i64 i] w' fun r w'' => r = .returned (.tuple #[ansVal a, .int .i64 er]) ∧ Fr (fun _ => False) w' w'')
  room : ∀ {own : Own} {w : World} {x y N : Nat}, J own w x y N → N ≤ 2 ^ 39 → ∃ a b : Int,
    (Calls Tryz.prog 77 #[pv x] w fun r w' => r = .returned (.tuple #[.int .i64 a, .int .i64 b]) ∧ w' = w) ∧
    (Calls Tryz.prog 78 #[pv y] w fun r w' => r = .returned (.tuple #[.int .i64 a, .int .i64 b]) ∧ w' = w)
  clock : ∀ {own : Own} {w : World} {x y N : Nat}, J own w x y N → ∃ c : Int,
    (Calls Tryz.prog 76 #[pv x] w fun r w' => r = .returned (.int .i64 c) ∧ w' = w) ∧ ∃ ys, At w y ys 123 ∧ ys[5]? = some (.int .i64 c)
  begin_ : ∀ {own : Own} {w : World} {x y N : Nat}, J own w x y N → ∀ (i kind key value : Int), ok kind → ∃ er : Int, ∀ w0, Fr (fun _ => False) w w0 → ∀ (sa : Option Addr) (sn sc : Nat) (sp : Value), Calls Tryz.prog 66 #[pv x, .int .i64 i, opVal kind key value (.slice sa sn sc)] w0 fun e w1 =>
    e = .returned (.int .i64 er) ∧ Then own w0 w1 67 #[pv y, .int .i64 i, opVal kind key value sp] (.int .i64 er) (fun own2 w2 => J own2 w2 x y N)

/-- An update side by side with the document's. -/
def JU (own : Own) (w : World) (x y N : Nat) : Prop := ∃ L M P R f, L.s = x ∧ M.s = y ∧ ZAt own 0 w L P ∧ BAt own 1 w M R ∧ Rel f P R ∧ Big N R

section
variable {own own' : Own} {w w' : World} {x y N : Nat} {S : Nat → Prop}
theorem zone_off {z : Nat} (hz : z ≤ 1) (hS : ∀ k, k < w.heap.size → S k → 2 ≤ (own k).z) : ∀ k, k < w.heap.size → (own k).z = z → ¬ S k := fun k hk h1 h2 => by have := hS k hk h2; omega
theorem JU.fr (h : JU own w x y N) (hf : Fr S w w') (he : Ext own own' w) (hS : ∀ k, k < w.heap.size → S k → 2 ≤ (own k).z) : JU own' w' x y N := by
  obtain ⟨L, M, P, R, f, e1, e2, hZ, hB, hr, hb⟩ := h
  have hf' : Fr (fun k => 2 ≤ (own k).z) w w' := hf.mono (fun k hk h => hS k hk h)
  exact ⟨L, M, P, R, f, e1, e2, hZ.fr hf' he (fun k hk h2 => by omega), hB.fr hf' he (fun k hk h2 => by omega), hr, hb⟩
/-- Behind a call on the program's side. -/
theorem Then.mk {w1 : World} {fn : Nat} {args : Array Value} {v : Value} {Q : Own → World → Prop} {L : ZLay} {M : BLay} {P' : PSt} {R : BSt} (hG : ∃ own1 L1, ZAt own1 0 w1 L1 P' ∧ Ext own own1 w ∧ FrZ own 0 w w1 ∧ L1.s = L.s) (hB : BAt own 1 w M R)
    (hnext : ∀ own1 w1' L1, ZAt own1 0 w1' L1 P' → BAt own1 1 w1' M R → L1.s = L.s → Calls Tryz.prog fn args w1' fun e w2 => e = .returned v ∧ FrZ own1 1 w1' w2 ∧ ∃ own2, Ext own1 own2 w1' ∧ Q own2 w2) : Then own w w1 fn args v Q := by
  obtain ⟨own1, L1, hZ1, hE1, hF1, es⟩ := hG
  refine ⟨Fr.mono hF1 (fun k _ h => by omega), ?_⟩
  intro w1' S hF hS
  have hB1 : BAt own1 1 w1 M R := hB.fr hF1 hE1 (fun k hk h2 => by omega)
  have off : ∀ z k, z ≤ 1 → (own1 k).z = z → ¬ S k := by
    intro z k hz h1 h2
    obtain ⟨a, b⟩ := hS k h2
    rw [hE1 k a] at h1; omega
  refine (hnext own1 w1' L1 (hZ1.fr hF (Ext.refl _ _) (fun k hk => off 0 k (by omega) hk)) (hB1.fr hF (Ext.refl _ _) (fun k hk => off 1 k (by omega) hk)) es).mono ?_
  rintro e w2 ⟨rfl, hF2, own2, hE2, hQ⟩
  refine ⟨rfl, Fr.mono hF2 ?_, own2, ?_, hQ⟩
  · intro k _ hk
    by_cases hlt : k < w.heap.size
    · left; rw [← hE1 k hlt]; omega
    · right; omega
  · intro k hk
    have h1 := hF1.size
    have h2 := hF.size
    rw [hE2 k (by omega)]; exact hE1 k hk
theorem JU.lt (h : JU own w x y N) : (own x).z = 0 ∧ (own y).z = 1 := by
  obtain ⟨L, M, P, R, f, rfl, rfl, hZ, hB, _, _⟩ := h
  exact ⟨by rw [hZ.hown], by rw [hB.hown]⟩
theorem isIn_of {i : Int} {n : Nat} (h : i < n) (h0 : 0 ≤ i) : isIn i 0 (n - 1) = true := isIn_true (by omega)
theorem JU.step (h : JU own w x y N) (hN : N < 2 ^ 39) (i : Int) : ∃ n er : Int, Calls Tryz.prog 68 #[pv x, .int .i64 i] w fun e w1 =>
    e = .returned (.tuple #[.int .i64 n, .int .i64 er]) ∧ Then own w w1 69 #[pv y, .int .i64 i] (.tuple #[.int .i64 n, .int .i64 er]) (fun own2 w2 => JU own2 w2 x y (N + 1)) := by
  obtain ⟨L, M, P, R, f, rfl, rfl, hZ, hB, hr, hb⟩ := h
  have h8 := hr.inv.th8
  have hthl := hr.inv.thl
  have htl := hr.tlen
  have stay : ∀ own1 w1' L1 (er : Int), ZAt own1 0 w1' L1 P → BAt own1 1 w1' M R → L1.s = L.s → ∀ e w2, e = Ending.returned (.tuple #[.int .i64 0, .int .i64 er]) ∧ w2 = w1' → e = .returned (.tuple #[.int .i64 0, .int .i64 er]) ∧ FrZ own1 1 w1' w2 ∧ ∃ own2, Ext own1 own2 w1' ∧ JU own2 w2 L.s M.s (N + 1) := by
    rintro own1 w1' L1 er hZ1 hB1 es e w2 ⟨rfl, rfl⟩
    exact ⟨rfl, Fr.refl _ _, own1, Ext.refl _ _, L1, M, P, R, f, es, rfl, hZ1, hB1, hr, hb.mono (by omega)⟩
  by_cases hi : 0 ≤ i ∧ i < R.ts.length
  · obtain ⟨j, rfl⟩ := Int.eq_ofNat_of_zero_le hi.1
    have hj : j < R.ts.length := by omega
    obtain ⟨t, v, ht, hv, e1, e2⟩ := hr.get hj
    have hT := hr.th j t v ht hv
    cases hvb : v.busy
    · refine ⟨0, 4, (ZStep_idle hZ ht (hT.busy.trans hvb)).mono ?_⟩
      rintro e w1 ⟨rfl, rfl⟩
      refine ⟨rfl, Then.mk (L := L) ⟨own, L, hZ, Ext.refl _ _, Fr.refl _ _, rfl⟩ hB ?_⟩
      intro own1 w1' L1 hZ1 hB1 es
      exact (BStep_idle hB1 j (by omega) hthl (by omega) (by rw [e2]; exact hvb)).mono (fun e w2 hh => stay own1 w1' L1 4 hZ1 hB1 es e w2 hh)
    · obtain ⟨hU, hW⟩ := hr.one ht hv hvb
      obtain ⟨s1, f', s2⟩ := simU hr ht hv hvb
      have ha := hU.at1
      refine ⟨(P.step j t).2, 0, (ZStep_busy hZ ht (hT.busy.trans hvb) (hr.pUpd ht hv hvb) (by rw [hW.next]; exact ha) (by rw [hW.kind]; exact hU.kd)).mono ?_⟩
      rintro e w1 ⟨rfl, own1, L1, hZ1, hE1, hF1, es1, _, _⟩
      refine ⟨rfl, Then.mk (L := L) ⟨own1, L1, hZ1, hE1, hF1, es1⟩ hB ?_⟩
      intro own1 w1' L1 hZ1 hB1 es
      have hb2 := hb.stepL j v
      refine (BStep_busy hB1 j (by omega) hthl (by omega) (by rw [e2]; exact hvb) (R' := (R.stepL j v).1) (n := (P.step j t).2) ?_).mono ?_
      · intro l hl hth
        rw [e2] at hth
        rw [s1]
        exact stepU hB1 (hr.stOk hb (by omega)) hl hth hU.updOk (by have := hU.kd; omega) ha.1 ha.2 hU.h5
      · rintro e w2 ⟨rfl, own2, M2, hB2, hE2, hF2, es2, _⟩
        refine ⟨rfl, hF2, own2, hE2, L1, M2, _, _, f', es, es2, hZ1.fr hF2 hE2 (fun k hk h2 => by omega), hB2, s2, hb2⟩
  · refine ⟨0, 2, (ZStep_none hZ i (by omega)).mono ?_⟩
    rintro e w1 ⟨rfl, rfl⟩
    refine ⟨rfl, Then.mk (L := L) ⟨own, L, hZ, Ext.refl _ _, Fr.refl _ _, rfl⟩ hB ?_⟩
    intro own1 w1' L1 hZ1 hB1 es
    exact (BStep_none hB1 i (isIn_false (by omega)) (by omega)).mono (fun e w2 hh => stay own1 w1' L1 2 hZ1 hB1 es e w2 hh)
theorem JU.answer (h : JU own w x y N) (i : Int) : ∃ (a : BAns) (er : Int),
    (∀ w', Fr (fun _ => False) w w' → Calls Tryz.prog 70 #[pv x, .int .i64 i] w' fun r w'' => r = .returned (.tuple #[ansVal a, .int .i64 er]) ∧ Fr (fun _ => False) w' w'') ∧
    (∀ w', Fr (fun _ => False) w w' → Calls Tryz.prog 71 #[pv y, .int .i64 i] w' fun r w'' => r = .returned (.tuple #[ansVal a, .int .i64 er]) ∧ Fr (fun _ => False) w' w'') := by
  obtain ⟨L, M, P, R, f, rfl, rfl, hZ, hB, hr, hb⟩ := h
  obtain ⟨h1, h2⟩ := hr.answer i
  refine ⟨(R.answer i).1, (R.answer i).2, ?_, ?_⟩
  · intro w' hF
    have := ZAnswer_calls (hZ.fr hF (Ext.refl _ _) (fun _ _ h => h)) i (by rw [h1]; exact h2)
    rw [h1] at this
    exact this
  · intro w' hF
    exact BAnswer_calls (hB.fr hF (Ext.refl _ _) (fun _ _ h => h)) hr.inv.thl hr.inv.th8 i h2
theorem JU.room (h : JU own w x y N) (hN : N ≤ 2 ^ 39) : ∃ a b : Int,
    (Calls Tryz.prog 77 #[pv x] w fun r w' => r = .returned (.tuple #[.int .i64 a, .int .i64 b]) ∧ w' = w) ∧
    (Calls Tryz.prog 78 #[pv y] w fun r w' => r = .returned (.tuple #[.int .i64 a, .int .i64 b]) ∧ w' = w) := by
  obtain ⟨L, M, P, R, f, rfl, rfl, hZ, hB, hr, hb⟩ := h
  have hO := hr.stOk hb hN
  have h1 := hr.core.room
  refine ⟨P.mem.room.1, P.mem.room.2, ZRoom_calls hZ, ?_⟩
  rw [h1]
  exact BRoom_calls hB (by have := hO.some; omega) (Nat.le_of_lt hO.few) hO.room
theorem JU.clock (h : JU own w x y N) : ∃ c : Int,
    (Calls Tryz.prog 76 #[pv x] w fun r w' => r = .returned (.int .i64 c) ∧ w' = w) ∧ ∃ ys, At w y ys 123 ∧ ys[5]? = some (.int .i64 c) := by
  obtain ⟨L, M, P, R, f, rfl, rfl, hZ, hB, hr, hb⟩ := h
  refine ⟨P.clock, ZClock_calls hZ, _, hB.hd, ?_⟩
  rw [hr.clock]; rfl
theorem JU.begin_ (h : JU own w x y N) (i kind key value : Int) (hk : kind = 1 ∨ kind = 2) : ∃ er : Int, ∀ w0, Fr (fun _ => False) w w0 → ∀ (sa : Option Addr) (sn sc : Nat) (sp : Value), Calls Tryz.prog 66 #[pv x, .int .i64 i, opVal kind key value (.slice sa sn sc)] w0 fun e w1 =>
    e = .returned (.int .i64 er) ∧ Then own w0 w1 67 #[pv y, .int .i64 i, opVal kind key value sp] (.int .i64 er) (fun own2 w2 => JU own2 w2 x y N) := by
  obtain ⟨L, M, P, R, f, rfl, rfl, hZ0, hB0, hr, hb⟩ := h
  obtain ⟨s1, s2⟩ := hr.begin i kind key value [] [] hk
  refine ⟨(P.begin i kind key value []).2, ?_⟩
  intro w0 hF0 sa sn sc sp
  have hZ := hZ0.calm hF0
  have hB := hB0.fr hF0 (Ext.refl _ _) (fun _ _ h => h)
  refine (ZBegin_calls hZ i kind key value sa sn sc [] hk).mono ?_
  rintro e w1 ⟨rfl, own1, L1, hZ1, hE1, hF1, es1, _, _⟩
  refine ⟨rfl, Then.mk (L := L) ⟨own1, L1, hZ1, hE1, hF1, es1⟩ hB ?_⟩
  intro own1 w1' L1 hZ1 hB1 es
  rw [s1]
  refine (BBegin_calls hB1 hr.inv.thl hr.inv.th8 i kind key value sp [] hk).mono ?_
  rintro e w2 ⟨rfl, own2, M2, hB2, hE2, hF2, es2⟩
  exact ⟨rfl, hF2, own2, hE2, L1, M2, _, _, f, es, es2, hZ1.fr hF2 hE2 (fun k hk h2 => by omega), hB2, s2, hb.begin i kind key value []⟩
end
theorem sidesU : Sides JU (fun k => k = 1 ∨ k = 2) :=
  ⟨fun h => h.fr, fun h => h.lt, fun h => h.step, fun h => h.answer, fun h => h.room, fun h => h.clock, fun h => h.begin_⟩
end Go.Proofs.YtfccelbmacjifaaGreat

set_option linter.unusedSimpArgs false
namespace Go.Proofs.YtfccelbmacjifaaGreat
open Go.RowKit
/-! ### The caller's own: zone 2 -/
structure Giv where
  list : Value
  want : Value
  ps : List (Int × Int)
def givCells (g : Giv) : List Value := [g.list, g.want]
def wcells (x y : Nat) (k t n e l : Int) (gv : Value) : List Value :=
  [pv x, pv y, .int .i64 k, .int .i64 t, .int .i64 n, .int .i64 e, .int .i64 l, .slice none 0 0, .slice none 0 0, gv]
structure CAt (own : Own) (w : World) (wb x y : Nat) (k t n e l : Int) (gv : Value) (gs : List Giv) : Prop where
  at_ : At w wb (wcells x y k t n e l gv) 51
  tg : own wb = ⟨2, .store⟩
  row : Row own 2 w (.oth 1) 66 2 gv gs.length (gs.flatMap givCells)
  lst : ∀ (i : Nat) g, gs[i]? = some g → Row own 2 w (.oth 2) 138 2 g.list g.ps.length (g.ps.flatMap pairCells) ∧ Row own 2 w (.oth 2) 138 2 g.want g.ps.length (g.ps.flatMap pairCells)
  sz : ∀ g ∈ gs, g.ps.length ≤ 2 ^ 21
theorem CAt.fr {own own' : Own} {w w' : World} {wb x y : Nat} {k t n e l : Int} {gv : Value} {gs : List Giv} {S : Nat → Prop} (h : CAt own w wb x y k t n e l gv gs) (hf : Fr S w w') (he : Ext own own' w) (hS : ∀ k, k < w.heap.size → S k → (own k).z ≠ 2) : CAt own' w' wb x y k t n e l gv gs := by
  have hf' : Fr (fun k => (own k).z ≠ 2) w w' := hf.mono hS
  have hT : ∀ tag j, own j = ⟨2, tag⟩ → ¬ ((own j).z ≠ 2) := fun tag j hj h2 => h2 (by rw [hj])
  exact ⟨(at_fr h.at_ h.tg hf' he (hT _)).1, (at_fr h.at_ h.tg hf' he (hT _)).2, h.row.fr hf' he (hT _), fun i g hg => ⟨(h.lst i g hg).1.fr hf' he (hT _), (h.lst i g hg).2.fr hf' he (hT _)⟩, h.sz⟩

/-- What is not to be turned, seen from a world. -/
structure Root where
  D : Nat → Prop
  w : World
def Root.all (w : World) : Root := ⟨fun j => j < w.heap.size, w⟩
/-- Where a script stands: both stores, the caller's lists; nothing that is not to be turned has turned. -/
def LawAt (J : Own → World → Nat → Nat → Nat → Prop) (w0 : Root) (w : World) (wb : Nat) (k t n e l : Int) (N G : Nat) : Prop :=
  ∃ own x y gv gs, J own w x y N ∧ CAt own w wb x y k t n e l gv gs ∧ gs.length ≤ G ∧ (∀ j, w0.D j → j < w0.w.heap.size ∧ (own j).z = 3) ∧ Fr (fun j => ¬ w0.D j) w0.w w

section
variable {J : Own → World → Nat → Nat → Nat → Prop} {ok : Int → Prop} {w0 : Root} {w w' : World} {wb x y N G : Nat} {k t n e l : Int}
theorem Fr.keepOld {own : Own} {S : Nat → Prop} (h : Fr (fun j => ¬ w0.D j) w0.w w) (hf : Fr S w w') (ho : ∀ j, w0.D j → j < w0.w.heap.size ∧ (own j).z = 3) (hS : ∀ j, j < w.heap.size → w0.D j → S j → (own j).z ≠ 3) : Fr (fun j => ¬ w0.D j) w0.w w' :=
  ⟨hf.os.trans h.os, hf.tape.trans h.tape, hf.output.trans h.output, Nat.le_trans h.size hf.size, fun j hj hd => by
    have hd' : w0.D j := Classical.not_not.1 hd
    have hjw := Nat.lt_of_lt_of_le hj h.size
    exact (hf.block j hjw (fun hs => hS j hjw hd' hs (ho j hd').2)).trans (h.block j hj hd)⟩
/-- Nothing but new blocks. -/
theorem LawAt.calm (S : Sides J ok) (h : LawAt J w0 w wb k t n e l N G) (hf : Fr (fun _ => False) w w') : LawAt J w0 w' wb k t n e l N G := by
  obtain ⟨own, x, y, gv, gs, hJ, hC, hG, ho, hF⟩ := h
  exact ⟨own, x, y, gv, gs, S.fr hJ hf (Ext.refl _ _) (fun _ _ h => h.elim), hC.fr hf (Ext.refl _ _) (fun _ _ h => h.elim), hG, ho, hF.trans (hf.mono (fun _ _ h => h.elim))⟩
/-- A new block is to be kept too. -/
theorem LawAt.keep (S : Sides J ok) (h : LawAt J w0 w wb k t n e l N G) (hf : Fr (fun _ => False) w w') {b : Nat} (hb : w.heap.size ≤ b) (hb' : b < w'.heap.size) : LawAt J ⟨fun j => w0.D j ∨ j = b, w'⟩ w' wb k t n e l N G := by
  obtain ⟨own, x, y, gv, gs, hJ, hC, hG, ho, hF⟩ := h
  have hE : Ext own (own.put b 3 .store) w := Ext.put hb _ _
  refine ⟨own.put b 3 .store, x, y, gv, gs, S.fr hJ hf hE (fun _ _ h => h.elim), hC.fr hf hE (fun _ _ h => h.elim), hG, ?_, Fr.refl _ _⟩
  have hs1 := hF.size
  have hs2 := hf.size
  rintro j (hj | rfl)
  · have := (ho j hj).1
    exact ⟨Nat.lt_of_lt_of_le (ho j hj).1 (Nat.le_trans hs1 hs2), by rw [hE j (by omega)]; exact (ho j hj).2⟩
  · exact ⟨hb', by rw [Own.put_same]⟩
/-- It need not be kept any more. -/
theorem LawAt.back {b : Nat} {w1 : World} (h : LawAt J ⟨fun j => w0.D j ∨ j = b, w1⟩ w' wb k t n e l N G) (hd : ∀ j, w0.D j → j < w0.w.heap.size) (hF : Fr (fun j => ¬ w0.D j) w0.w w1) : LawAt J w0 w' wb k t n e l N G ∧ Fr (fun j => j ≠ b) w1 w' := by
  obtain ⟨own, x, y, gv, gs, hJ, hC, hG, ho, hF1⟩ := h
  refine ⟨⟨own, x, y, gv, gs, hJ, hC, hG, fun j hj => ⟨hd j hj, (ho j (.inl hj)).2⟩, hF.trans (hF1.mono (fun j _ h hj => h (.inl hj)))⟩, hF1.mono (fun j _ h hj => h (.inr hj))⟩
theorem LawAt.root (h : LawAt J w0 w wb k t n e l N G) : (∀ j, w0.D j → j < w0.w.heap.size) ∧ Fr (fun j => ¬ w0.D j) w0.w w := by
  obtain ⟨own, x, y, gv, gs, hJ, hC, hG, ho, hF⟩ := h
  exact ⟨fun j hj => (ho j hj).1, hF⟩
theorem LawAt.mono (h : LawAt J w0 w wb k t n e l N G) {G' : Nat} (hG : G ≤ G') : LawAt J w0 w wb k t n e l N G' := by
  obtain ⟨own, x, y, gv, gs, hJ, hC, hg, ho, hF⟩ := h
  exact ⟨own, x, y, gv, gs, hJ, hC, by omega, ho, hF⟩
theorem LawAt.at_ (h : LawAt J w0 w wb k t n e l N G) : ∃ x y gv, At w wb (wcells x y k t n e l gv) 51 := by
  obtain ⟨own, x, y, gv, gs, hJ, hC, hg, ho, hF⟩ := h
  exact ⟨x, y, gv, hC.at_⟩

set_option maxHeartbeats 1000000 in
theorem steps_calls (S : Sides J ok) (h : LawAt J w0 w wb k t n e l N G) (hN : N < 2 ^ 39) (i : Int) :
    Calls Tryz.prog 29 #[pv wb, .int .i64 i] w fun r w' => ∃ m : Int, r = .returned (.tuple #[.int .i64 m, .bool true]) ∧ LawAt J w0 w' wb k t n e l (N + 1) G := by
  obtain ⟨own, x, y, gv, gs, hJ, hC, hG, ho, hF⟩ := h
  obtain ⟨m, er, hc⟩ := S.step hJ hN i
  have hw := hC.at_.cell
  simp only [wcells] at hw
  have HC := (show Hid (CAt _ _ _ _ _ _ _ _ _ _ _ _) from hC)
  have HS := (show Hid (Calls _ _ _ _ _) from hc)
  have HO := (show Hid (∀ j, _ → _) from ho)
  have HF := (show Hid (Fr _ _ _) from hF)
  have HSd := (show Hid (Sides J ok) from S)
  have h1 : (m == m) = true := by simp
  have h2 : (er == er) = true := by simp
  clear hC hc ho hF S hJ
  unfold pv at hw HS ⊢
  go_enter Tryz.func29, Tryz.ntmps29
  go_wp2_with fail
  refine Calls.mono HS.out ?_
  rintro r w1 ⟨rfl, hF1, hT⟩
  have HF1 := (show Hid (Fr _ _ _) from hF1)
  have HT := (show Hid (∀ (w1' : World) (S : Nat → Prop), _) from hT)
  have hC1 := HC.out.fr hF1 (Ext.refl _ _) (fun j _ h1 h2 => by omega)
  have hw1 := hC1.at_.cell
  simp only [wcells, pv] at hw1
  clear hF1 hT hw hC1 HS
  go_wp2_with fail
  refine Calls.mono (HT.out w1 (fun _ => False) (Fr.refl _ _) (fun _ h => h.elim)) ?_
  rintro r w2 ⟨rfl, hF2, own2, hE, hJ2⟩
  have HEnd : Hid (LawAt J w0 w2 wb k t n e l (N + 1) G) := by
    have hF12 : Fr (fun k => (own k).z ≤ 1 ∨ w.heap.size ≤ k) w w2 := (HF1.out.mono (fun _ _ h => .inl h)).trans hF2
    refine ⟨own2, x, y, gv, gs, hJ2, HC.out.fr hF12 hE (fun j hj h1 h2 => by omega), hG, ?_, HF.out.keepOld hF12 HO.out (fun j hj hd h1 h2 => ?_)⟩
    · intro j hj; rw [hE j (Nat.lt_of_lt_of_le (HO.out j hj).1 HF.out.size)]; exact HO.out j hj
    · omega
  clear hF2 hE hJ2 hw1 HT HC HF1 HF HO
  go_wp2
  go_ret2
  exact ⟨m, rfl, HEnd.out⟩

set_option maxHeartbeats 1000000 in
theorem runs_calls (S : Sides J ok) (h : LawAt J w0 w wb k t n e l N G) (i m : Int) (hm : 0 ≤ m ∧ m ≤ 40) (hN : N + 40 < 2 ^ 39) :
    Calls Tryz.prog 30 #[pv wb, .int .i64 i, .int .i64 m] w fun r w' => r = .returned (.bool true) ∧ ∃ N', N' ≤ N + 40 ∧ LawAt J w0 w' wb k t n e l N' G := by
  have HS := (show Hid (Sides J ok) from S)
  have H := (show Hid (LawAt _ _ _ _ _ _ _ _ _ _ _) from h)
  obtain ⟨m0, m1⟩ := hm
  clear h S
  go_enter Tryz.func30, Tryz.ntmps30
  go_wp2
  go_loopw [7] (fun a wr => ∃ j : Nat, (j : Int) ≤ m ∧ a = .int .i64 j ∧ Hid (LawAt J w0 wr wb k t n e l (N + j) G)) (fun a _ => (m - intOf a).toNat)
  case atStart => exact ⟨0, by omega, rfl, H.out⟩
  case round =>
    obtain ⟨j, hj, rfl, HL⟩ := hrel
    by_cases hlt : (j : Int) < m
    · go_wp2_with fail
      refine (steps_calls HS.out HL.out (by omega) i).mono ?_
      rintro r w1 ⟨q, rfl, hL1⟩
      have HL1 := (show Hid (LawAt _ _ _ _ _ _ _ _ _ _ _) from hL1)
      clear hL1
      by_cases hq : q = 1
      · subst hq
        go_wp2
        go_roundw
        case rel => exact ⟨j + 1, by omega, by go_num, HL1⟩
        case measure => simp [intOf]; omega
      · go_wp2
        go_ret
        exact ⟨rfl, _, by omega, HL1.out⟩
    · go_wp2
      go_ret
      exact ⟨rfl, _, by omega, HL.out⟩
end
end Go.Proofs.YtfccelbmacjifaaGreat

set_option linter.unusedSimpArgs false
namespace Go.Proofs.YtfccelbmacjifaaGreat
open Go.RowKit
section
variable {J : Own → World → Nat → Nat → Nat → Prop} {ok : Int → Prop} {w0 : Root} {w w' : World} {wb x y N G : Nat} {k t n e l : Int}
set_option maxHeartbeats 1000000 in
theorem turns_calls (S : Sides J ok) (h : LawAt J w0 w wb k t n e l N G) (m : Int) (hm : 0 ≤ m ∧ m ≤ 40) (ht : 0 ≤ t ∧ t ≤ 8) (hN : N + 320 < 2 ^ 39) :
    Calls Tryz.prog 32 #[pv wb, .int .i64 m] w fun r w' => r = .returned (.bool true) ∧ ∃ N', N' ≤ N + 320 ∧ LawAt J w0 w' wb k t n e l N' G := by
  have HS := (show Hid (Sides J ok) from S)
  have H := (show Hid (LawAt _ _ _ _ _ _ _ _ _ _ _) from h)
  obtain ⟨m0, m1⟩ := hm
  obtain ⟨t0, t1⟩ := ht
  clear h S
  unfold pv
  go_enter Tryz.func32, Tryz.ntmps32
  go_wp2
  go_loopw [5] (fun a wr => ∃ j : Nat, (j : Int) ≤ m ∧ a = .int .i64 j ∧ ∃ N', N' ≤ N + 8 * j ∧ Hid (LawAt J w0 wr wb k t n e l N' G)) (fun a _ => (m - intOf a).toNat)
  case atStart => exact ⟨0, by omega, rfl, N, by omega, H.out⟩
  case round =>
    clear H
    obtain ⟨j, hj, rfl, N', hN', HL⟩ := hrel
    by_cases hlt : (j : Int) < m
    · go_wp2
      go_loopw [6] (fun a wr => ∃ q : Nat, (q : Int) ≤ t ∧ a = .int .i64 q ∧ Hid (LawAt J w0 wr wb k t n e l (N' + q) G)) (fun a _ => (t - intOf a).toNat)
      case atStart => exact ⟨0, by omega, rfl, HL.out⟩
      case round =>
        clear HL
        obtain ⟨q, hq, rfl, HL⟩ := hrel
        obtain ⟨x, y, gv, hA⟩ := HL.out.at_
        have hw := hA.cell
        simp only [wcells, pv] at hw
        clear hA
        by_cases hqt : (q : Int) < t
        · go_wp2_with fail
          refine (steps_calls HS.out HL.out (by omega) q).mono ?_
          rintro r w1 ⟨z, rfl, hL1⟩
          have HL1 := (show Hid (LawAt _ _ _ _ _ _ _ _ _ _ _) from hL1)
          clear hL1 hw
          go_wp2
          go_roundw
          case rel => exact ⟨q + 1, by omega, by go_num, HL1⟩
          case measure => simp [intOf]; omega
        · go_wp2
          go_roundw
          case rel => exact ⟨j + 1, by omega, by go_num, N' + q, by omega, HL⟩
          case measure => simp [intOf]; omega
    · go_wp2
      go_ret
      exact ⟨rfl, _, by omega, HL.out⟩

set_option maxHeartbeats 1000000 in
theorem lroom_calls (S : Sides J ok) (h : LawAt J w0 w wb k t n e l N G) (hN : N ≤ 2 ^ 39) :
    Calls Tryz.prog 37 #[pv wb] w fun r w' => r = .returned (.bool true) ∧ w' = w := by
  obtain ⟨own, x, y, gv, gs, hJ, hC, hG, ho, hF⟩ := h
  obtain ⟨a, b, hx, hy⟩ := S.room hJ hN
  have hc := hC.at_.cell
  simp only [wcells, pv] at hc
  have HX := (show Hid (Calls _ _ _ _ _) from hx)
  have HY := (show Hid (Calls _ _ _ _ _) from hy)
  have h1 : (a == a) = true := by simp
  have h2 : (b == b) = true := by simp
  clear hC hx hy S hJ ho hF
  unfold pv at HX HY ⊢
  go_enter Tryz.func37, Tryz.ntmps37
  go_wp2_with fail
  refine Calls.mono HX.out ?_
  rintro r w' ⟨rfl, rfl⟩
  go_wp2_with fail
  refine Calls.mono HY.out ?_
  rintro r w' ⟨rfl, rfl⟩
  go_wp2
  go_ret
  exact ⟨rfl, rfl⟩

set_option maxHeartbeats 1000000 in
theorem lclock_calls (S : Sides J ok) (h : LawAt J w0 w wb k t n e l N G) :
    Calls Tryz.prog 36 #[pv wb] w fun r w' => r = .returned (.bool true) ∧ w' = w := by
  obtain ⟨own, x, y, gv, gs, hJ, hC, hG, ho, hF⟩ := h
  obtain ⟨c, hx, ys, hy, hyc⟩ := S.clock hJ
  have hc := hC.at_.cell
  simp only [wcells, pv] at hc
  have HX := (show Hid (Calls _ _ _ _ _) from hx)
  have h5 : w.cell? ⟨y, 5, none⟩ = some (.int .i64 c) := by rw [hy.cell, hyc]
  have h1 : (c == c) = true := by simp
  clear hC hx hy hyc S hJ ho hF
  unfold pv at HX ⊢
  go_enter Tryz.func36, Tryz.ntmps36
  go_wp2_with fail
  refine Calls.mono HX.out ?_
  rintro r w' ⟨rfl, rfl⟩
  go_wp2
  go_ret
  exact ⟨rfl, rfl⟩

theorem run_slice_nil_nil {P : Program} (w : World) {t e : TypeId} (ht : P.underlying t = some (.slice e)) : (binOp .eql t (.slice none 0 0) (.slice none 0 0)).run P w = .ok (.bool true) w := by
  simpa using Go.Lib.run_eql_slice_nil (P := P) w t e none 0 0 0 0 ht
def ansCells (a : BAns) : List Value := [.int .i64 a.err, .bool a.did, .int .i64 a.value, .int .i64 a.stamp, .slice none 0 0]
set_option maxHeartbeats 1000000 in
set_option maxRecDepth 100000 in
theorem lsameAnswers_nil (a : BAns) (w : World) :
    Calls Tryz.prog 59 #[ansVal a, ansVal a] w fun e w' => e = .returned (.bool true) ∧ Fr (fun _ => False) w w' := by
  obtain ⟨er, di, va, st, sp⟩ := a
  simp only [ansVal]
  have h1 : (er != er) = false := by simp
  have h2 : (di != di) = false := by simp
  have h3 : (va != va) = false := by simp
  have h4 : (st != st) = false := by simp
  have h5 : ∀ w', (binOp .eql 61 (.slice none 0 0) (.slice none 0 0)).run Tryz.prog w' = .ok (.bool true) w' := fun w' => run_slice_nil_nil w' Tryz.underlying61
  go_enter Tryz.func59, Tryz.ntmps59
  go_wp2_with fail
  refine wp_loop_rounds 1 ?_
  rw [rounds_succ]
  go_wp2
  go_ret
  exact ⟨rfl, ((Fr.refl _ _).alloc _).alloc _⟩

set_option maxHeartbeats 1000000 in
set_option maxRecDepth 100000 in
theorem lanswers_calls (S : Sides J ok) (h : LawAt J w0 w wb k t n e l N G) (i : Int) :
    Calls Tryz.prog 33 #[pv wb, .int .i64 i] w fun r w' => r = .returned (.bool true) ∧ Fr (fun _ => False) w w' := by
  obtain ⟨own, x, y, gv, gs, hJ, hC, hG, ho, hF⟩ := h
  obtain ⟨a, er, hx, hy⟩ := S.answer hJ i
  have hW := hC.at_
  have hc := hW.cell
  simp only [wcells, pv] at hc
  have hl := hW.lt
  have HX := (show Hid (∀ w', Fr (fun _ => False) w w' → _) from hx)
  have HY := (show Hid (∀ w', Fr (fun _ => False) w w' → _) from hy)
  have HW := (show Hid (At w wb _ _) from hW)
  have hne : (er != er) = false := by simp
  clear hx hy hW S hJ ho hF hC
  unfold pv at HX HY ⊢
  go_enter Tryz.func33, Tryz.ntmps33
  go_wp2_with fail
  refine (HX.out w (Fr.refl _ _)).mono ?_
  rintro r w1 ⟨rfl, hF1⟩
  have hW1 : Hid (At w1 wb _ _) := hF1.at HW.out (fun h => h)
  have hc1 := hW1.out.cell
  have hl1 := hW1.out.lt
  simp only [wcells, pv] at hc1
  have HF1 := (show Hid (Fr _ _ _) from hF1)
  clear hF1 hc hl
  simp only [ansVal]
  go_wp2_with fail
  refine (HY.out _ (HF1.out.alloc _)).mono ?_
  rintro r w2 ⟨rfl, hF2⟩
  have HA2 := (show Hid (At w2 w1.heap.size (ansCells a) 93) from hF2.at (At.new w1 (ansCells a) 93) (fun h => h))
  have hA2 := HA2.out.cell
  have hl2 := HA2.out.lt
  have HF2 := (show Hid (Fr _ _ _) from (HF1.out.alloc _).trans hF2)
  clear hF2 hc1 hl1 HX HY HW hW1
  simp only [ansVal, ansCells] at hA2 ⊢
  go_wp2_with fail
  refine (lsameAnswers_nil a _).mono ?_
  rintro r w3 ⟨rfl, hF3⟩
  have hA3 := (hF3.at ((At.newAt (c := ansCells a) rfl 93) : At _ w2.heap.size _ _) (fun h => h))
  have HF3 := (show Hid (Fr _ _ _) from (HF2.out.alloc _).trans hF3)
  have hA1 := (hF3.at (HA2.out.alloc _) (fun h => h)).cell
  have hA2 := hA3.cell
  simp only [ansCells] at hA1 hA2
  clear hF3 hA3 HF2 HF1 HA2
  go_wp2
  go_ret
  exact ⟨rfl, HF3.out⟩
end
end Go.Proofs.YtfccelbmacjifaaGreat

