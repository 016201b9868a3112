import Derived.Test.YtfccelbmacjifaaGreatP26
set_option linter.unusedSimpArgs false
namespace Go.Proofs.YtfccelbmacjifaaGreat
open Go.ChangeShapes Go.WideShapes Go.ChangeAt Go.RowKit Go.Joins Go.Deep
/-- What is wanted of the law's own walk. -/
def LawHolds (fn : Nat) : Prop := ∀ (k t n e l : Int) (W : World) (sa : Option Addr) (c : Nat) (acts : List ActD), acts.length ≤ 2 ^ 20 → (∀ i a, acts[i]? = some a → ActIn W sa i a ∧ a.sn ≤ 2 ^ 20) →
  Calls Tryz.prog fn #[cfg k t n e l, .slice sa acts.length c] W fun r W' => r = .returned (.bool true) ∧ Fr (fun _ => False) W W'
set_option maxRecDepth 100000 in
theorem updates_contract (hany : LawHolds 3) (H : Type) (enc : TypeId × Value → H) (W : World) (base : Nat) (args : Array Value) (ds gs : List (DataW H)) (before : List MemPlace)
    (hval0 : ∀ (j : Nat) t v, Tryz.f3.params[j]? = some t → args[j]? = some v → Value.okWide Tryz.prog W .any base t v)
    (hW : DataW.Whole enc Tryz.prog Tryz.f3.params.toList Rows.updatesSpec.vars false W args.toList ds gs before) (hk : Rows.uptoSmall H (ds ++ gs) = true) :
    Calls Tryz.prog 3 args W fun e W' => ∃ v, e = .returned v ∧ Rows.updatesSpec.post enc Tryz.prog Tryz.f3 false true false false W args v W' := by
  have hval : ∀ (j : Nat) t v, Tryz.f3.params[j]? = some t → args[j]? = some v → Value.okWide Tryz.prog W .any base t v := hval0
  have hW' := hW
  obtain ⟨p, q, hA0, hV, rfl, _, _⟩ := hW
  have hA : DataW.TrodAll enc Tryz.prog W 0 (fun _ => true) true Tryz.f3.params.toList args.toList ds p := hA0
  rw [Tryz.params3] at hA hval
  obtain ⟨v0, vs0, d0, ds0, p0, q0, hargs, rfl, rfl, h0, r0⟩ := trodAll_cons hA
  obtain ⟨v1, vs1, d1, ds1, p1, q1, hargs1, rfl, rfl, h1, r1⟩ := trodAll_cons r0
  obtain ⟨rfl, rfl, rfl⟩ := trodAll_nil r1
  obtain rfl : args = #[v0, v1] := by cases args; simp_all
  obtain ⟨rfl, rfl⟩ := trodVars_none hV
  have k0 := h0
  have k1 := h1
  have lt0 : ∀ x ∈ p0, x.block < W.heap.size := by obtain ⟨m, hm⟩ := k0; exact DataW.trod_lt m _ _ _ hm
  have lt1 : ∀ x ∈ p1, x.block < W.heap.size := by obtain ⟨m, hm⟩ := k1; exact DataW.trod_lt m _ _ _ hm
  obtain ⟨k, t, n, e, l, rfl⟩ := cfg_open (hval 0 23 v0 rfl rfl) h0
  obtain ⟨sa, m, c, acts, rfl, hm, hl, hacts⟩ := acts_open (hval 1 24 v1 rfl rfl) h1
  have hb : Rows.uptoBulk d1 ≤ 2 ^ 20 := by
    have h : Rows.uptoBulkAll ([d0, d1] ++ []) ≤ 1048576 := of_decide_eq_true hk
    simp only [List.cons_append, List.nil_append, Rows.uptoBulkAll] at h
    omega
  clear hA0 hval0
  subst hl
  refine (hany k t n e l W sa c acts (Nat.le_trans hm hb) (fun i a ha => ⟨(hacts i a ha).1, Nat.le_trans (hacts i a ha).2 hb⟩)).mono fun r W' ⟨he, hf⟩ => ?_
  subst he
  have bel : Below W.heap.size W W' := hf.below (fun _ _ h => h)
  exact ⟨_, rfl, _, _, _, [], _, [], hW', trodAll_mk1 (shut_bool Tryz.underlying4 _), trodAll_cons_mk (Below.trod Tryz.laidOut (by kernel_rfl) (of_decide_eq_true (by kernel_rfl)) k0 bel lt0) (trodAll_cons_mk (Below.trod Tryz.laidOut (by kernel_rfl) (of_decide_eq_true (by kernel_rfl)) k1 bel lt1) trodAll_mk0), rfl, bel.frame _, fun h => by cases h⟩

set_option maxRecDepth 100000 in
theorem updates_lifted (hany : LawHolds 3) (os : Os) (started : os.Started) (H : Type) (enc : TypeId × Value → H) (F : Stop.Interp) :
    ReturnsInHanded {} Tryz.checked os 3 .any ((Rows.OpenSpec.upto Rows.updatesSpec).pre6 enc Tryz.prog Tryz.f3 Rows.updatesUptoRow.domain false) (((Rows.OpenSpec.upto Rows.updatesSpec).at F).post enc Tryz.prog Tryz.f3 false true false false) := by
  refine returnsInHanded_of_cond (C := Tryz.checked) (s := Rows.OpenSpec.upto Rows.updatesSpec) (k := Rows.uptoSmall) rfl Tryz.own started (by kernel_rfl) Tryz.func3
    (OpenSpec.witness (enc := enc) (C := Tryz.checked) (s := Rows.OpenSpec.upto Rows.updatesSpec) (k := Rows.uptoSmall) rfl false ⟨#[], #[.agg #[.int .i64 0, .int .i64 0, .int .i64 0, .int .i64 0, .int .i64 0], .slice none 0 0], []⟩ 8 (by kernel_rfl) (by kernel_rfl) (by kernel_rfl)
      (x := ([.agg [.lit (.int .i64 0), .lit (.int .i64 0), .lit (.int .i64 0), .lit (.int .i64 0), .lit (.int .i64 0)], .nil], [], [])) (by kernel_rfl) rfl (by kernel_rfl)) ?_
  intro W base args ds gs before hval hW _ hk _
  exact updates_contract hany H enc W base args ds gs before hval hW hk

theorem updates_frame (hany : LawHolds 3) : Rows.UpdatesUptoSaid :=
  OpenClaim.holds_of_cond 3 Tryz.f3 rfl rfl rfl rfl rfl rfl rfl ⟨rfl, rfl, rfl, rfl, rfl⟩ rfl rfl rfl rfl rfl (by kernel_rfl) Tryz.func3 (by kernel_rfl)
    (of_decide_eq_true (by kernel_rfl)) (by unfold Func.isWrapper; first | (rw [if_pos (by decide +kernel)]; kernel_rfl) | (rw [if_neg (by decide +kernel)]; exact ⟨rfl, rfl⟩))
    (fun os started H enc _ F => updates_lifted hany os started H enc F)
end Go.Proofs.YtfccelbmacjifaaGreat

set_option linter.unusedSimpArgs false
namespace Go.Proofs.YtfccelbmacjifaaGreat
open Go.RowKit
theorem ActIn.calm {w w' : World} {sa : Option Addr} {i : Nat} {a : ActD} (h : ActIn w sa i a) (hf : Fr (fun _ => False) w w') : ActIn w' sa i a := by
  obtain ⟨b, off, rfl, h1, h2, h3⟩ := h
  exact ⟨b, off, rfl, fun j v hj => hf.calmCell (h1 j v hj), h2.calm hf, h3⟩
theorem Fr.ofAll {w w' : World} (h : Fr (fun j => ¬ (Root.all w).D j) (Root.all w).w w') : Fr (fun _ => False) w w' :=
  ⟨h.os, h.tape, h.output, h.size, fun j hj _ => h.block j hj (fun hn => hn hj)⟩
section
variable {J : Own → World → Nat → Nat → Nat → Prop} {ok : Int → Prop} {k t n e l : Int}
set_option maxHeartbeats 2000000 in
set_option maxRecDepth 100000 in
theorem plays_calls (S : Sides J ok) (p b1 b2 b4 : Int) (h1 : bits .and .i64 p 1 = b1) (h2 : bits .and .i64 p 2 = b2) (h4 : bits .and .i64 p 4 = b4) (hfit : ∀ a, fitB a b1 b2 b4 = true → a.kd ≠ 6 ∧ (a.kd = 1 → ok a.o))
    (hno : okCfg k t n e l = false → ∀ w, Calls Tryz.prog 16 #[cfg k t n e l] w fun r w' => r = .returned (.tuple #[.pointer none, .bool true]) ∧ Fr (fun _ => False) w w')
    (hyes : okCfg k t n e l = true → ∀ w, Calls Tryz.prog 16 #[cfg k t n e l] w fun r w' => ∃ (wb : Nat), r = .returned (.tuple #[pv wb, .bool true]) ∧ LawAt J (Root.all w) w' wb k t n e l 0 0)
    (W : World) (sa : Option Addr) (c : Nat) (acts : List ActD) (hlen : acts.length ≤ 2 ^ 20) (hacts : ∀ i a, acts[i]? = some a → ActIn W sa i a ∧ a.sn ≤ 2 ^ 20) :
    Calls Tryz.prog 14 #[cfg k t n e l, .slice sa acts.length c, .int .i64 p] W fun r W' => r = .returned (.bool true) ∧ Fr (fun _ => False) W W' := by
  have HS := (show Hid (Sides J ok) from S)
  have HFit := (show Hid (∀ a, _ → _) from hfit)
  have HA := (show Hid (∀ (i : Nat) a, _) from hacts)
  have Hb1 := (show Hid (bits .and .i64 p 1 = b1) from h1)
  have Hb2 := (show Hid (bits .and .i64 p 2 = b2) from h2)
  have Hb4 := (show Hid (bits .and .i64 p 4 = b4) from h4)
  cases hok : okCfg k t n e l
  · have HN := (show Hid (∀ w, _) from hno hok)
    clear hno hyes hok S hfit hacts h1 h2 h4
    unfold cfg at HN ⊢
    go_enter Tryz.func14, Tryz.ntmps14
    go_wp2_with fail
    refine (HN.out _).mono ?_
    rintro r w1 ⟨rfl, hF1⟩
    have HF1 := (show Hid (Fr _ _ _) from ((Fr.refl _ _).alloc _).trans hF1)
    clear hF1
    go_wp2
    go_ret
    exact ⟨rfl, HF1.out⟩
  · have HY := (show Hid (∀ w, _) from hyes hok)
    have HT := (show Hid (0 ≤ t ∧ t ≤ 8) from ⟨by have := (okCfg_parts hok).2.1.1; omega, (okCfg_parts hok).2.1.2⟩)
    clear hno hyes hok S hfit hacts h1 h2 h4
    unfold cfg at HY ⊢
    go_enter Tryz.func14, Tryz.ntmps14
    go_wp2_with fail
    refine (HY.out _).mono ?_
    rintro r w1 ⟨wb, rfl, hL⟩
    have HR := (show Hid (Fr (fun _ => False) W (W.alloc (.cells #[.int .i64 k, .int .i64 t, .int .i64 n, .int .i64 e, .int .i64 l] 23))) from (Fr.refl _ _).alloc _)
    have HL := (show Hid (LawAt J (Root.all (W.alloc (.cells #[.int .i64 k, .int .i64 t, .int .i64 n, .int .i64 e, .int .i64 l] 23))) w1 wb k t n e l 0 0) from hL)
    generalize W.alloc _ = W1 at HR HL
    clear hL HY
    unfold pv
    go_wp2_with fail
    go_loopw [9] (fun i wr => ∃ j : Nat, j ≤ acts.length ∧ i = .int .i64 j ∧ ∃ N', N' ≤ 320 * j ∧ Hid (LawAt J (Root.all W1) wr wb k t n e l N' j)) (fun i _ => acts.length - (intOf i).toNat)
    case atStart => exact ⟨0, by omega, rfl, 0, by omega, HL.out⟩
    case round =>
      clear HL
      obtain ⟨j, hj, rfl, N', hN', HL⟩ := hrel
      by_cases hlt : j < acts.length
      · have hp : acts[j]? = some acts[j] := List.getElem?_eq_getElem hlt
        generalize acts[j] = a at hp
        obtain ⟨hA, hsn⟩ := HA.out j a hp
        have HF := (show Hid (Fr (fun _ => False) W wr) from HR.out.trans HL.out.root.2.ofAll)
        obtain ⟨b, off, rfl, hc, hsp, hm⟩ := hA.calm HF.out
        have c0 := hc 0 _ rfl
        have c1 := hc 1 _ rfl
        have c2 := hc 2 _ rfl
        have c3 := hc 3 _ rfl
        have c4 := hc 4 _ rfl
        have c5 := hc 5 _ rfl
        have c6 := hc 6 _ rfl
        simp only [Nat.add_zero, ← Nat.add_assoc] at c0 c1 c2 c3 c4 c5 c6
        have HAI := (show Hid (Spans wr a.sa a.sn a.ps) from hsp)
        have HM := (show Hid (_ ∧ _) from hm)
        clear hp hA hc hsp hm
        go_wp2_with fail
        refine (fits_calls a p b1 b2 b4 Hb1.out Hb2.out Hb4.out _).mono ?_
        rintro r w2 ⟨rfl, hF2⟩
        have HL2 := (show Hid (LawAt _ _ _ _ _ _ _ _ _ _ _) from HL.out.calm HS.out hF2)
        have c0 := hF2.calmCell c0
        have c1 := hF2.calmCell c1
        have c2 := hF2.calmCell c2
        have c3 := hF2.calmCell c3
        have c4 := hF2.calmCell c4
        have c5 := hF2.calmCell c5
        have c6 := hF2.calmCell c6
        have HAI2 := (show Hid (Spans w2 a.sa a.sn a.ps) from HAI.out.calm hF2)
        clear hF2 HL HAI HF
        cases hfb : fitB a b1 b2 b4
        · clear hfb
          go_wp2
          go_roundw
          case rel => exact ⟨j + 1, by omega, by go_num, N', by omega, HL2.out.mono (Nat.le_succ j)⟩
          case measure => simp [intOf]; omega
        · obtain ⟨h6, hko⟩ := HFit.out a hfb
          have HH := (show Hid (_ ∧ _) from ⟨h6, hko⟩)
          clear hfb h6 hko
          go_wp2_with fail
          refine (act_calls HS.out HL2.out HT.out (by omega) (by omega) a HAI2.out hsn HM.out HH.out.1 HH.out.2).mono ?_
          rintro r w3 ⟨rfl, N'', hN'', hL3⟩
          have HL3 := (show Hid (LawAt _ _ _ _ _ _ _ _ _ _ _) from hL3)
          clear hL3 c0 c1 c2 c3 c4 c5 c6 HL2
          go_wp2_with fail
          obtain ⟨own, x', y', gv', gs, _, hC, hg, _, _⟩ := HL3.out
          refine (looks_calls hC (by omega)).mono ?_
          rintro r w4 ⟨rfl, hF4⟩
          have HL4 := (show Hid (LawAt _ _ _ _ _ _ _ _ _ _ _) from HL3.out.calm HS.out hF4)
          clear hC hF4 HL3
          go_wp2
          go_roundw
          case rel => exact ⟨j + 1, by omega, by go_num, N'', by omega, HL4⟩
          case measure => simp [intOf]; omega
      · go_wp2_with fail
        refine (last_calls HS.out HL.out HT.out (by omega) (by omega)).mono ?_
        rintro r w2 ⟨rfl, hF2⟩
        have HF := (show Hid (Fr (fun _ => False) W w2) from (HR.out.trans HL.out.root.2.ofAll).trans hF2)
        clear hF2
        go_wp2
        go_ret
        exact ⟨rfl, HF.out⟩
end
theorem fitB_updates (a : ActD) (h : fitB a 1 0 0 = true) : a.kd ≠ 6 ∧ (a.kd = 1 → a.o = 1 ∨ a.o = 2) := by
  unfold fitB at h
  by_cases h1 : a.kd = 1
  · rw [if_pos h1] at h
    refine ⟨by omega, fun _ => ?_⟩
    by_cases ho : a.o = 1 ∨ a.o = 2
    · exact ho
    · rw [if_neg ho] at h; simp at h
  · rw [if_neg h1] at h
    refine ⟨?_, fun h => absurd h h1⟩
    intro h6
    rw [if_pos h6] at h; simp at h
set_option maxHeartbeats 1000000 in
theorem Updates_any : LawHolds 3 := by
  intro k t n e l W sa c acts hlen hacts
  have HA := (show Hid (∀ (i : Nat) a, _) from hacts)
  have HLn := (show Hid (acts.length ≤ 2 ^ 20) from hlen)
  clear hacts hlen
  unfold cfg
  go_enter Tryz.func3, Tryz.ntmps3
  go_wp2_with fail
  refine (of_calls k t n e l 0 _).mono ?_
  rintro r w1 ⟨rfl, hF1⟩
  have HF1 := (show Hid (Fr (fun _ => False) W w1) from ((Fr.refl _ _).alloc _).trans hF1)
  clear hF1
  go_wp2_with fail
  refine (plays_calls sidesU 1 1 0 0 (by kernel_rfl) (by kernel_rfl) (by kernel_rfl) fitB_updates (fun h w => lmade_no 0 t n e l w h) (fun h w => lmade_yes t n e l w h) w1 sa c acts HLn.out (fun i a ha => ⟨(HA.out i a ha).1.calm HF1.out, (HA.out i a ha).2⟩)).mono ?_
  rintro r w2 ⟨rfl, hF2⟩
  have HF2 := (show Hid (Fr (fun _ => False) W w2) from HF1.out.trans hF2)
  clear hF2
  go_wp2
  go_ret
  exact ⟨rfl, HF2.out⟩
theorem updates_holds : Rows.UpdatesUptoSaid := updates_frame Updates_any
#print axioms updates_holds
end Go.Proofs.YtfccelbmacjifaaGreat

