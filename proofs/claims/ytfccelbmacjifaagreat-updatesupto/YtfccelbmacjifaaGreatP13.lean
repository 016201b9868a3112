import Derived.Test.YtfccelbmacjifaaGreatP12
import Derived.Deep.RegionLawGrows
import Derived.Test.YtfccelbmacjifaaGreatP5
namespace Go.Proofs.YtfccelbmacjifaaGreat
open Go.RowKit
section
variable {own : Own} {z : Nat} {w : World} {L : BLay} {R : BSt}
set_option maxHeartbeats 4000000 in
set_option maxRecDepth 100000 in
theorem BBegin_calls (h : BAt own z w L R) (hn : R.threads = R.ts.length) (h8 : 1 ≤ R.ts.length ∧ R.ts.length ≤ 8) (i kind key value : Int) (sp : Value) (spans : List (Int × Int)) (hkd : kind = 1 ∨ kind = 2) :
    Calls Tryz.prog 67 #[.pointer (some ⟨L.s, 0, none⟩), .int .i64 i, opVal kind key value sp] w fun e w' => e = .returned (.int .i64 (R.begin i kind key value spans).2) ∧
      ∃ own' L', BAt own' z w' L' (R.begin i kind key value spans).1 ∧ Ext own own' w ∧ FrZ own z w w' ∧ L'.s = L.s := by
  have hF0 : Fr (fun _ => False) w (w.alloc (.cells #[.int .i64 kind, .int .i64 key, .int .i64 value, sp] 82)) := (Fr.refl _ _).alloc _
  have H := (show Hid (BAt own z _ L R) from h.fr hF0 (Ext.refl _ _) (fun _ _ h => h))
  have HO := (show Hid (At _ w.heap.size _ _) from At.new w [.int .i64 kind, .int .i64 key, .int .i64 value, sp] 82)
  have HF0 := (show Hid (Fr (fun _ => False) w _) from hF0)
  have same : Hid (∀ w1, Fr (fun _ => False) w w1 → ∃ own' L', BAt own' z w1 L' R ∧ Ext own own' w ∧ FrZ own z w w1 ∧ L'.s = L.s) := by
    intro w1 hf
    exact ⟨own, L, h.fr hf (Ext.refl _ _) (fun _ _ h => h), Ext.refl _ _, Fr.mono hf (fun _ _ h => h.elim), rfl⟩
  have hs := H.out.hd.cell
  have hsl := H.out.hd.lt
  have hsl0 := h.hd.lt
  simp only [BSt.head] at hs
  obtain ⟨t0, t1⟩ := h8
  have hq0 : (1 : Int) ≤ R.threads := by omega
  have hq1 : R.threads ≤ (8 : Int) := by omega
  have HN := (show Hid (R.threads = R.ts.length) from hn)
  have H00 := (show Hid (BAt own z w L R) from h)
  clear h hF0
  cases hI : isIn i 0 (R.threads - 1)
  · have hE : Hid (R.begin i kind key value spans = (R, 2)) := by show _ = _; simp [BSt.begin, hI]
    clear hn
    unfold opVal
    go_enter Tryz.func67, Tryz.ntmps67
    go_wp2_with fail
    refine (between_calls i 0 (R.threads - 1) _).mono ?_
    rintro e w' ⟨rfl, rfl⟩
    rw [hI]
    go_wp2
    go_ret
    rw [hE.out]
    exact ⟨rfl, same.out _ HF0.out⟩
  · obtain ⟨h0, h1⟩ := isIn_iff.1 hI
    obtain ⟨j, rfl⟩ := Int.eq_ofNat_of_zero_le h0
    have hlt : j < R.ts.length := by omega
    obtain ⟨l, tb, cap, hl, htv, hptr, ht, hT⟩ := H.out.thAt hlt
    generalize hth : R.th j = t at ht hT
    have ha := hT.at_.cell
    have hal := hT.at_.lt
    have HT := (show Hid (ThAt own z _ j l t) from hT)
    have HL := (show Hid (L.ths[j]? = some l) from hl)
    have Ht := (show Hid (R.ts[j]? = some t) from ht)
    have HTV := (show Hid (L.tv = _) from htv)
    have hne : w.heap.size ≠ l.b := HO.out.ne hT.at_ (by decide)
    have hoc := HO.out.cell
    simp only [BThread.cells] at ha
    rw [htv] at hs
    clear hl ht hT h0 h1 hn htv
    cases hb : t.busy
    · rw [hb] at ha
      cases hky : isIn key 0 (2 ^ 40)
      · have hE : Hid (R.begin j kind key value spans = (R, 5)) := by show _ = _; unfold BSt.begin; rw [hI, Int.toNat_natCast, hth, hb, mayOp_upd kind key spans hkd, hky]; simp
        unfold opVal
        go_enter Tryz.func67, Tryz.ntmps67
        go_wp2_with fail
        refine (between_calls j 0 (R.threads - 1) _).mono ?_
        rintro e w' ⟨rfl, rfl⟩
        rw [hI]
        go_wp2_with fail
        refine (may_calls kind key value sp _ hkd).mono ?_
        rintro e w1 ⟨rfl, hF⟩
        rw [hky]
        have HF1 := (show Hid (Fr (fun _ => False) w w1) from HF0.out.trans hF)
        clear hF ha hs hoc hptr
        go_wp2
        go_ret
        rw [hE.out]
        exact ⟨rfl, same.out _ HF1.out⟩
      · have hE : Hid (R.begin j kind key value spans = (R.setTh j (t.begun kind key value spans), 0)) := by
          show _ = _; unfold BSt.begin; rw [hI, Int.toNat_natCast, hth, hb, mayOp_upd kind key spans hkd, hky]; simp
        unfold opVal
        go_enter Tryz.func67, Tryz.ntmps67
        go_wp2_with fail
        refine (between_calls j 0 (R.threads - 1) _).mono ?_
        rintro e w' ⟨rfl, rfl⟩
        rw [hI]
        go_wp2_with fail
        refine (may_calls kind key value sp _ hkd).mono ?_
        rintro e w1 ⟨rfl, hF⟩
        rw [hky]
        have HF1 := (show Hid (Fr (fun _ => False) w w1) from HF0.out.trans hF)
        have H1 := (show Hid (BAt own z w1 L R) from H.out.fr hF (Ext.refl _ _) (fun _ _ h => h))
        have HO1 := (show Hid (At w1 w.heap.size _ _) from hF.at HO.out (fun h => h))
        clear hF ha hs hoc hptr HO HT H
        have HT1 := (show Hid (ThAt own z w1 j l t) from H1.out.thr j l t HL.out Ht.out)
        have ha := HT1.out.at_.cell
        have hoc := HO1.out.cell
        have hs := H1.out.hd.cell
        simp only [BThread.cells] at ha
        simp only [BSt.head, HTV.out] at hs
        go_wp2_with fail
        go_region
        have hF2 : Fr (fun _ => False) w1 (w1.alloc (.cells #[.int .i64 0, .int .i64 0, .int .i64 0, .slice none 0 0, .bool true, .bool t.has, .int .i64 1, .int .i64 (-1), .int .i64 0, .int .i64 0, .int .i64 0, .int .i64 0, .int .i64 0, .int .i64 0, .slice none 0 0, .int .i64 0, .int .i64 0, .int .i64 0, .int .i64 0, .slice none 0 0, .int .i64 0, .int .i64 0, .int .i64 0, .slice none 0 0, .slice none 0 0, .int .i64 0, .bool false, .int .i64 0, .int .i64 0, .slice none 0 0, .int .i64 t.last.err, .bool t.last.did, .int .i64 t.last.value, .int .i64 t.last.stamp, l.lspans] 136)).drew := ((Fr.refl _ _).alloc _).drew
        have HA2 := (show Hid (At _ w1.heap.size _ _) from (At.new w1 [.int .i64 0, .int .i64 0, .int .i64 0, .slice none 0 0, .bool true, .bool t.has, .int .i64 1, .int .i64 (-1), .int .i64 0, .int .i64 0, .int .i64 0, .int .i64 0, .int .i64 0, .int .i64 0, .slice none 0 0, .int .i64 0, .int .i64 0, .int .i64 0, .int .i64 0, .slice none 0 0, .int .i64 0, .int .i64 0, .int .i64 0, .slice none 0 0, .slice none 0 0, .int .i64 0, .bool false, .int .i64 0, .int .i64 0, .slice none 0 0, .int .i64 t.last.err, .bool t.last.did, .int .i64 t.last.value, .int .i64 t.last.stamp, l.lspans] 136).drew)
        have H2 := (show Hid (BAt own z _ L R) from H1.out.fr hF2 (Ext.refl _ _) (fun _ _ h => h))
        have HO2 := (show Hid (At _ w.heap.size _ _) from hF2.at HO1.out (fun h => h))
        have HF2 := (show Hid (Fr (fun _ => False) w _) from HF1.out.trans hF2)
        have hge : w.heap.size ≤ w1.heap.size := HF1.out.size
        clear hF2 ha hoc hs HT1 HO1 H1 HF1
        generalize (w1.alloc (.cells #[.int .i64 0, .int .i64 0, .int .i64 0, .slice none 0 0, .bool true, .bool t.has, .int .i64 1, .int .i64 (-1), .int .i64 0, .int .i64 0, .int .i64 0, .int .i64 0, .int .i64 0, .int .i64 0, .slice none 0 0, .int .i64 0, .int .i64 0, .int .i64 0, .int .i64 0, .slice none 0 0, .int .i64 0, .int .i64 0, .int .i64 0, .slice none 0 0, .slice none 0 0, .int .i64 0, .bool false, .int .i64 0, .int .i64 0, .slice none 0 0, .int .i64 t.last.err, .bool t.last.did, .int .i64 t.last.value, .int .i64 t.last.stamp, l.lspans] 136)).drew = w2 at *
        have hk4 : (kind == 4) = false := by rcases hkd with h | h <;> rw [h] <;> rfl
        have hoc := HO2.out.cell
        have hs := H2.out.hd.cell
        simp only [BSt.head, HTV.out] at hs
        have hac := HA2.out.cell
        have haz := HA2.out.frozen
        have hrow := H2.out.th.row
        rw [HTV.out] at hrow
        have hrz := ownsRow_frozen hrow
        obtain ⟨l', tb', cap', hl', htv', hptr', _⟩ := H2.out.thAt hlt
        rw [HTV.out] at htv'
        simp only [Value.slice.injEq, Option.some.injEq, Addr.mk.injEq, and_true, true_and] at htv'
        obtain ⟨rfl, rfl⟩ := htv'
        have ntb : tb ≠ w1.heap.size := by have := HA2.out.ne_row hrow (by decide); simpa [Value.ownBlock] using this
        have ntb' := ntb.symm
        have nso : w.heap.size ≠ w1.heap.size := HO2.out.ne HA2.out (by decide)
        have nso' := nso.symm
        have nls : L.s ≠ w1.heap.size := H2.out.hd.ne HA2.out (by decide)
        have nls' := nls.symm
        have HROW := (show Hid (w2.ownsRow 0 _ _ _ _ _) from hrow)
        clear hl' hrow
        go_wp2
        go_ret
        rw [hE.out]
        refine ⟨rfl, ?_⟩
        have hA3 := ((((HA2.out.set 0 (.int .i64 kind)).set 1 (.int .i64 key)).set 2 (.int .i64 value)).set 3 (.slice none 0 0)).setOther ⟨tb, j, none⟩ ntb' (.pointer (some ⟨w1.heap.size, 0, none⟩))
        simp only [List.set_cons_zero, List.set_cons_succ] at hA3
        have hn1 : ∀ o, (Value.slice (some ⟨tb, 0, none⟩) R.ts.length cap).ownBlock ≠ some (⟨w1.heap.size, o, none⟩ : Addr).block := by intro o; simpa [Value.ownBlock] using ntb
        have hrow3 := ownsRow_set (ownsRow_setOther (ownsRow_setOther (ownsRow_setOther (ownsRow_setOther HROW.out (hn1 0) (.int .i64 kind)) (hn1 1) (.int .i64 key)) (hn1 2) (.int .i64 value)) (hn1 3) (.slice none 0 0)) j (.pointer (some ⟨w1.heap.size, 0, none⟩))
        have hF3 : Fr (fun k => k = tb) w (((((w2.setCell ⟨w1.heap.size, 0, none⟩ (.int .i64 kind)).setCell ⟨w1.heap.size, 1, none⟩ (.int .i64 key)).setCell ⟨w1.heap.size, 2, none⟩ (.int .i64 value)).setCell ⟨w1.heap.size, 3, none⟩ (.slice none 0 0)).setCell ⟨tb, j, none⟩ (.pointer (some ⟨w1.heap.size, 0, none⟩))) :=
          Fr.set1 (Fr.setNew hge (Fr.setNew hge (Fr.setNew hge (Fr.setNew hge (Fr.mono HF2.out (fun _ _ h => h.elim)) _ _) _ _) _ _) _ _) _ _
        have hsp : (t.begun kind key value spans).ospans = [] := by unfold BThread.begun; rw [if_neg (by omega)]
        refine H00.out.thrNew HL.out Ht.out HTV.out hF3 hge (by rw [HTV.out]; exact hrow3) ?_ hsp rfl rfl rfl rfl rfl rfl
        simp only [BThread.cells, BThread.begun, BThread.zero, b2i_false, Int.natCast_zero]
        exact hA3
    · rw [hb] at ha
      have hE : Hid (R.begin j kind key value spans = (R, 3)) := by show _ = _; unfold BSt.begin; rw [hI, Int.toNat_natCast, hth, hb]; simp
      unfold opVal
      go_enter Tryz.func67, Tryz.ntmps67
      go_wp2_with fail
      refine (between_calls j 0 (R.threads - 1) _).mono ?_
      rintro e w' ⟨rfl, rfl⟩
      rw [hI]
      go_wp2
      go_ret
      rw [hE.out]
      exact ⟨rfl, same.out _ HF0.out⟩
end
end Go.Proofs.YtfccelbmacjifaaGreat

namespace Go.Proofs.YtfccelbmacjifaaGreat
open Go.RowKit
section
variable {own : Own} {z : Nat} {w : World} {L : BLay} {R : BSt}
def BSt.answer (R : BSt) (i : Int) : BAns × Int :=
  if isIn i 0 (R.threads - 1) then (if (R.th i.toNat).has then ((R.th i.toNat).last, 0) else ({}, 4)) else ({}, 2)

set_option maxHeartbeats 2000000 in
set_option maxRecDepth 100000 in
theorem BAnswer_calls (h : BAt own z w L R) (hn : R.threads = R.ts.length) (h8 : 1 ≤ R.ts.length ∧ R.ts.length ≤ 8) (i : Int) (hnil : (R.answer i).1.spans = []) :
    Calls Tryz.prog 71 #[.pointer (some ⟨L.s, 0, none⟩), .int .i64 i] w fun e w' => e = .returned (.tuple #[ansVal (R.answer i).1, .int .i64 (R.answer i).2]) ∧ Fr (fun _ => False) w w' := by
  have hF0 : Fr (fun _ => False) w (w.alloc (.cells #[.int .i64 0, .bool false, .int .i64 0, .int .i64 0, .slice none 0 0] 93)) := (Fr.refl _ _).alloc _
  have H := (show Hid (BAt own z _ L R) from h.fr hF0 (Ext.refl _ _) (fun _ _ h => h))
  have hs := H.out.hd.cell
  have hsl0 := h.hd.lt
  simp only [BSt.head] at hs
  obtain ⟨t0, t1⟩ := h8
  have hq0 : (1 : Int) ≤ R.threads := by omega
  have hq1 : R.threads ≤ (8 : Int) := by omega
  have HN := (show Hid (R.threads = R.ts.length) from hn)
  have H00 := (show Hid (BAt own z w L R) from h)
  clear h hF0
  cases hI : isIn i 0 (R.threads - 1)
  · have hE : Hid (R.answer i = ({}, 2)) := by show _ = _; simp [BSt.answer, hI]
    rw [hE.out]
    clear hn
    go_enter Tryz.func71, Tryz.ntmps71
    go_wp2_with fail
    refine (between_calls i 0 (R.threads - 1) _).mono ?_
    rintro e w' ⟨rfl, rfl⟩
    rw [hI]
    go_wp2
    exact bodyPost_ret (v := .tuple #[ansVal {}, .int .i64 2]) (by simp [results, Tryz.results71, go_sem, ansVal]) rfl ⟨rfl, (Fr.refl _ _).alloc _⟩
  · obtain ⟨h0, h1⟩ := isIn_iff.1 hI
    obtain ⟨j, rfl⟩ := Int.eq_ofNat_of_zero_le h0
    have hlt : j < R.ts.length := by omega
    obtain ⟨l, tb, cap, hl, htv, hptr, ht, hT⟩ := H.out.thAt hlt
    generalize hth : R.th j = t at ht hT
    have ha := hT.at_.cell
    have hal0 := (H00.out.thr j l t hl ht).at_.lt
    have hla := hT.llists
    simp only [BThread.cells] at ha
    rw [htv] at hs
    clear hl ht hT h0 h1 hn htv
    cases hb : t.has
    · have hE : Hid (R.answer j = ({}, 4)) := by show _ = _; unfold BSt.answer; rw [hI, Int.toNat_natCast, hth, hb]; simp
      rw [hE.out]
      rw [hb] at ha
      clear hla
      go_enter Tryz.func71, Tryz.ntmps71
      go_wp2_with fail
      refine (between_calls j 0 (R.threads - 1) _).mono ?_
      rintro e w' ⟨rfl, rfl⟩
      rw [hI]
      go_wp2
      exact bodyPost_ret (v := .tuple #[ansVal {}, .int .i64 4]) (by simp [results, Tryz.results71, go_sem, ansVal]) rfl ⟨rfl, (Fr.refl _ _).alloc _⟩
    · have hE : Hid (R.answer j = (t.last, 0)) := by show _ = _; unfold BSt.answer; rw [hI, Int.toNat_natCast, hth, hb]; simp
      rw [hE.out] at hnil ⊢
      have hln := hla.nil hnil
      rw [hb, hln] at ha
      clear hla hln
      go_enter Tryz.func71, Tryz.ntmps71
      go_wp2_with fail
      refine (between_calls j 0 (R.threads - 1) _).mono ?_
      rintro e w' ⟨rfl, rfl⟩
      rw [hI]
      go_wp2
      refine bodyPost_ret (v := .tuple #[ansVal t.last, .int .i64 0]) (by simp [results, Tryz.results71, go_sem, ansVal]) rfl ⟨rfl, ?_⟩
      repeat (with_reducible first | refine Fr.alloc ?_ _ | exact Fr.refl _ _)
end
end Go.Proofs.YtfccelbmacjifaaGreat

namespace Go.Proofs.YtfccelbmacjifaaGreat
open Go.RowKit
/-- 'append' of one element that has just been laid in block b, as a step of a region that draws its order. -/
theorem step_push {P : Program} {ops : Array Oper} {o : Oper} {a : Act} {w : World} {K : Act → World → Prop} {Q : Exit → Act → World → Prop} {E : Prop} (hgd : o.guard = none) (s x : Operand) (t : TypeId)
    (ho : o.op = .call { callee := .builtin .append, args := #[s, x], argTypes := #[t, t] })
    (base : Nat) (e : TypeId) (i : TypeInfo) (z : Value) (size bytes : Nat) (ht : P.underlying t = some (.slice e)) (hi : P.info? e = some i) (hz : i.zero = some z)
    (hsize : i.size = size) (hby : i.bytes = bytes) (hzs : z.cells.size = size) (hsz : 0 < size)
    (v : Value) (n : Nat) (xs : List Value) (hs : a.eval s = v) (hown : w.ownsRow base e size v n xs)
    (b : Nat) (news : List Value) (hx : a.eval x = .slice (some ⟨b, 0, none⟩) 1 1) (hl : news.length = size) (e' : TypeId) (hnews : At w b news e') (h1 : ∀ u ∈ news, u.oneCell' = true)
    (h63 : n + 1 ≤ maxLen) (hbytes : (n + 1) * bytes ≤ 140737488355328) (hbase : base ≤ w.heap.size)
    (h : ∀ g cap w', w'.ownsRow base e size (.slice (some ⟨g, 0, none⟩) (n + 1) cap) (n + 1) (xs ++ news) → w.grownBy w' v.ownBlock → (v.ownBlock = some g ∨ w.heap.size ≤ g) → K (a.put o.dst (.slice (some ⟨g, 0, none⟩) (n + 1) cap)) w') :
    if Region.wanted o (yielded ops a.tmps) = true then Oper.wp P o a w K Q else E := by
  have hc : ∀ j u, news[j]? = some u → w.cell? ((⟨b, 0, none⟩ : Addr).add j) = some u := by
    intro j u hu; rw [Addr.add_lit, Nat.zero_add, hnews.cell]; exact hu
  have hgrow : ∀ (v' : Value) (w' : World), w'.ownsRow w.heap.size e size v' (n + 1) (xs ++ news) → w.grownBy w' none → K (a.put o.dst v') w' := by
    intro v' w' h2 h3
    rcases h2.2 with ⟨_, h4⟩ | ⟨g, cap, cur, rfl, h5, h6, h7⟩
    · omega
    · exact h g cap w' ⟨h2.1, .inr ⟨g, cap, cur, rfl, by omega, h6, h7⟩⟩ ⟨h3.os, h3.tape, h3.output, h3.size, fun k hk _ => h3.block k hk (by simp)⟩ (.inr h5)
  rcases hown.2 with ⟨hv, hn⟩ | ⟨g, cap, cur, hv, hbg, hcur, hnc, hcm, hcs, htake⟩
  · have hx0 : xs = [] := List.eq_nil_of_length_eq_zero (by rw [hown.1, hn]; simp)
    subst hn
    exact step_append_grows hgd s x t ho e i z size bytes ht hi hz hsize hby hzs hsz none 0 0 xs (by rw [hs, hv]) (fun _ => ⟨rfl, rfl⟩) (by rw [hx0]; simp) (by intro b hb; cases hb) ⟨b, 0, none⟩ 1 1 news hx (by rw [hl, Nat.one_mul]) hc h1 (by omega) h63 hbytes hgrow
  · by_cases hroom : n + 1 ≤ cap
    · subst hv
      have hw : Region.wanted o (yielded ops a.tmps) = true := by simp [Region.wanted, hgd]
      rw [if_pos hw]
      obtain ⟨w', hrun, r1, r2⟩ := run_append_fits (P := P) w base t o.type e i size ht hi hsize g n cap xs hown ⟨b, 0, none⟩ 1 1 news (by rw [hl, Nat.one_mul]) hc h1 hroom
      unfold Oper.wp
      simp [execOp, ho, resolve, invoke, builtin, hs, hx, hrun, Result.andThen]
      exact h g cap w' r1 r2 (.inl rfl)
    · subst hv
      refine step_append_grows hgd s x t ho e i z size bytes ht hi hz hsize hby hzs hsz (some ⟨g, 0, none⟩) n cap xs hs (by intro h; cases h) hown.1 ?_ ⟨b, 0, none⟩ 1 1 news hx (by rw [hl, Nat.one_mul]) hc h1 (by omega) h63 hbytes hgrow
      intro b' hb' j u hu
      obtain rfl := Option.some.inj hb'
      exact hown.cells (g := g) rfl j u hu
/-- The same, its outcome known ahead of the region. -/
theorem push_runs {P : Program} (w : World) (t ty : TypeId) (base : Nat) (e : TypeId) (i : TypeInfo) (z : Value) (size bytes : Nat) (ht : P.underlying t = some (.slice e)) (hi : P.info? e = some i) (hz : i.zero = some z)
    (hsize : i.size = size) (hby : i.bytes = bytes) (hzs : z.cells.size = size) (hsz : 0 < size)
    (v : Value) (n : Nat) (xs : List Value) (hown : w.ownsRow base e size v n xs)
    (b : Nat) (news : List Value) (hl : news.length = size) (e' : TypeId) (hnews : At w b news e') (h1 : ∀ u ∈ news, u.oneCell' = true)
    (h63 : n + 1 ≤ maxLen) (hbytes : (n + 1) * bytes ≤ 140737488355328) (hbase : base ≤ w.heap.size) :
    ∃ g cap w', w'.ownsRow base e size (.slice (some ⟨g, 0, none⟩) (n + 1) cap) (n + 1) (xs ++ news) ∧ w.grownBy w' v.ownBlock ∧ (v.ownBlock = some g ∨ w.heap.size ≤ g) ∧
      ∀ (o : Oper) (a : Act) (s x : Operand), o.op = .call { callee := .builtin .append, args := #[s, x], argTypes := #[t, t] } → o.type = ty → a.eval s = v → a.eval x = .slice (some ⟨b, 0, none⟩) 1 1 →
        runsTo P (fun w'' => w'' = w') (.slice (some ⟨g, 0, none⟩) (n + 1) cap) ((execOp a.eval o).run P w) := by
  have hc : ∀ j u, news[j]? = some u → w.cell? ((⟨b, 0, none⟩ : Addr).add j) = some u := by
    intro j u hu; rw [Addr.add_lit, Nat.zero_add, hnews.cell]; exact hu
  rcases hown.2 with ⟨hv, hn⟩ | ⟨g, cap, cur, hv, hbg, hcur, hnc, hcm, hcs, htake⟩
  · have hx0 : xs = [] := List.eq_nil_of_length_eq_zero (by rw [hown.1, hn]; simp)
    subst hn
    subst hx0
    subst hv
    obtain ⟨v', w', hrun, r1, r2, _⟩ := run_append_own (P := P) w w.heap.size t ty e i z size bytes ht hi hz hsize hby hzs hsz (.slice none 0 0) 0 [] (World.ownsRow_nil w _ e size) ⟨b, 0, none⟩ 1 1 news (by rw [hl, Nat.one_mul]) hc h1 h63 hbytes (Nat.le_refl _)
    rcases r1.2 with ⟨_, h4⟩ | ⟨g', cap', cur', rfl, h5, h6, h7⟩
    · omega
    · refine ⟨g', cap', w', ⟨r1.1, .inr ⟨g', cap', cur', rfl, by omega, h6, h7⟩⟩, ⟨r2.os, r2.tape, r2.output, r2.size, fun k hk _ => r2.block k hk (by simp [Value.ownBlock])⟩, .inr h5, ?_⟩
      intro o a s x ho hty hs hx
      subst hty
      simp [execOp, ho, resolve, invoke, builtin, hs, hx, hrun, Result.andThen, runsTo]
  · by_cases hroom : n + 1 ≤ cap
    · subst hv
      obtain ⟨w', hrun, r1, r2⟩ := run_append_fits (P := P) w base t ty e i size ht hi hsize g n cap xs hown ⟨b, 0, none⟩ 1 1 news (by rw [hl, Nat.one_mul]) hc h1 hroom
      refine ⟨g, cap, w', r1, r2, .inl rfl, ?_⟩
      intro o a s x ho hty hs hx
      subst hty
      simp [execOp, ho, resolve, invoke, builtin, hs, hx, hrun, Result.andThen, runsTo]
    · subst hv
      obtain ⟨v', w', hrun, r1, r2⟩ := run_append_arg_grows (P := P) w t ty e i z size bytes ht hi hz hsize hby hzs hsz ⟨g, 0, none⟩ n cap xs hown.1 (fun j u hu => hown.cells (g := g) rfl j u hu) ⟨b, 0, none⟩ 1 1 news (by rw [hl, Nat.one_mul]) hc (by omega) h63 hbytes
      rcases r1.2 with ⟨_, h4⟩ | ⟨g', cap', cur', rfl, h5, h6, h7⟩
      · omega
      · refine ⟨g', cap', w', ⟨r1.1, .inr ⟨g', cap', cur', rfl, by omega, h6, h7⟩⟩, ⟨r2.os, r2.tape, r2.output, r2.size, fun k hk _ => r2.block k hk (by simp)⟩, .inr h5, ?_⟩
        intro o a s x ho hty hs hx
        subst hty
        simp [execOp, ho, resolve, invoke, builtin, hs, hx, hrun, Result.andThen, runsTo]
end Go.Proofs.YtfccelbmacjifaaGreat

namespace Go.Proofs.YtfccelbmacjifaaGreat
open Go.RowKit
theorem Tryz.infoSpotPtr : (Tryz.prog.info? 125).map (fun i => (i.zero, i.size, i.bytes)) = some (some (.pointer none), 1, 8) := by kernel_rfl
theorem infoQ {P : Program} {e : TypeId} {z : Option Value} {n m : Nat} (h : (P.info? e).map (fun i => (i.zero, i.size, i.bytes)) = some (z, n, m)) : ∃ i, P.info? e = some i ∧ i.zero = z ∧ i.size = n ∧ i.bytes = m := by
  cases hi : P.info? e with
  | none => rw [hi] at h; simp at h
  | some i => rw [hi] at h; simp at h; exact ⟨i, rfl, h.1, h.2.1, h.2.2⟩
section
variable {own : Own} {z : Nat} {w w1 : World} {L : BLay} {R : BSt}
/-- A new spot at the list's end. -/
theorem BAt.pushSpot (h : BAt own z w L R) {lb : SLay} {x : BSpot} (hb : SpAt own z w R.spots.length lb x) {g cap : Nat}
    (ho : w1.ownsRow 0 125 1 (.slice (some ⟨g, 0, none⟩) (R.spots.length + 1) cap) (R.spots.length + 1) (sptrs L.sps ++ [.pointer (some ⟨lb.b, 0, none⟩)]))
    (hF : Fr (fun k => L.sv.ownBlock = some k) w w1) (hge : L.sv.ownBlock = some g ∨ w.heap.size ≤ g) :
    BAt (own.put g z .spl) z (w1.setCell ⟨L.s, 6, none⟩ (.slice (some ⟨g, 0, none⟩) (R.spots.length + 1) cap)) { L with sv := .slice (some ⟨g, 0, none⟩) (R.spots.length + 1) cap, sps := L.sps ++ [lb] } (R.push x) ∧
    Ext own (own.put g z .spl) w ∧ FrZ own z w (w1.setCell ⟨L.s, 6, none⟩ (.slice (some ⟨g, 0, none⟩) (R.spots.length + 1) cap)) := by
  have hA : At w1 L.s (R.head L) 123 := hF.at h.hd (h.hd.ne_row h.sp.row (by decide))
  have hE : Ext own (own.put g z .spl) w := Ext.put' (Ext.refl _ _) (by
    rcases hge with hg | hg
    · exact .inl (h.sp.tg g hg)
    · exact .inr hg)
  have hf : Fr (fun k => k = L.s ∨ L.sv.ownBlock = some k) w (w1.setCell ⟨L.s, 6, none⟩ (.slice (some ⟨g, 0, none⟩) (R.spots.length + 1) cap)) :=
    Fr.setIn (.inl rfl) (hF.mono (fun k _ hk => .inr hk)) _ _
  have hn : ∀ tag, tag ≠ Tag.store → tag ≠ Tag.spl → ∀ k, own k = ⟨z, tag⟩ → ¬ (k = L.s ∨ L.sv.ownBlock = some k) := by
    rintro tag hne hne' k hk (rfl | hk')
    · rw [h.hown] at hk; simp at hk; exact hne hk.symm
    · rw [h.sp.tg k hk'] at hk; simp at hk; exact hne' hk.symm
  refine ⟨⟨hA.set 6 _, by rw [hE _ h.hd.lt]; exact h.hown, ⟨?_, ?_⟩, by simp [BSt.push, h.slen], ?_, h.th.fr hf hE (hn _ (by simp) (by simp)), h.tlen, ?_, h.log.fr hf hE (hn _ (by simp) (by simp)), h.rd.fr hf hE (hn _ (by simp) (by simp)) (hn _ (by simp) (by simp)) (hn _ (by simp) (by simp))⟩, hE, Fr.mono hf ?_⟩
  · have e : sptrs (L.sps ++ [lb]) = sptrs L.sps ++ [.pointer (some ⟨lb.b, 0, none⟩)] := by simp [sptrs]
    simp only [e, BSt.push, List.length_append, List.length_singleton]
    exact ownsRow_setOther ho (hA.ne_row ho (by decide)) _
  · intro k hk; simp [Value.ownBlock] at hk; subst hk; exact Own.put_same _ _ _ _
  · intro i l y hl hy
    simp only [BSt.push] at hy
    by_cases hlt : i < R.spots.length
    · rw [List.getElem?_append_left (by rw [h.slen]; exact hlt)] at hl
      rw [List.getElem?_append_left hlt] at hy
      exact (h.spot i l y hl hy).fr hf hE (hn _ (by simp) (by simp)) (fun k s => hn _ (by simp) (by simp) k)
    · have hi' : i = R.spots.length := by
        have := (List.getElem?_eq_some_iff.1 hy).1
        simp at this; omega
      subst hi'
      simp at hy; subst hy
      rw [← h.slen] at hl
      simp at hl; subst hl
      exact hb.fr hf hE (hn _ (by simp) (by simp)) (fun k s => hn _ (by simp) (by simp) k)
  · intro i l t hl ht
    exact (h.thr i l t hl ht).fr hf hE (hn _ (by simp) (by simp)) (fun k s => hn _ (by simp) (by simp) k) (hn _ (by simp) (by simp))
  · rintro k _ (rfl | hk)
    · rw [h.hown]
    · rw [h.sp.tg k hk]

set_option maxHeartbeats 1000000 in
set_option maxRecDepth 100000 in
theorem spot_calls (h : BAt own z w L R) {lb : SLay} {x : BSpot} (hb : SpAt own z w R.spots.length lb x) (hn : R.spots.length < 2 ^ 42) :
    Calls Tryz.prog 65 #[.pointer (some ⟨L.s, 0, none⟩), .pointer (some ⟨lb.b, 0, none⟩)] w fun e w' => ∃ own' L', e = .returned (.int .i64 R.spots.length) ∧
      BAt own' z w' L' (R.push { x with owner := -1, out := -1 }) ∧ Ext own own' w ∧ FrZ own z w w' ∧ L'.s = L.s ∧ L'.ths = L.ths ∧ L'.sps = L.sps ++ [lb] := by
  obtain ⟨iS, hiS, hzS, hsS, hbS⟩ := infoQ Tryz.infoSpotPtr
  have hc := h.hd.cell
  simp only [BSt.head] at hc
  have hz := h.hd.frozen
  have hcb := hb.at_.cell
  simp only [BSpot.cells] at hcb
  have hzb := hb.at_.frozen
  have hlb := hb.at_.lt
  have hls := h.hd.lt
  have hne : lb.b ≠ L.s := hb.at_.ne h.hd (by decide)
  have hne' := hne.symm
  have HR := (show Hid (BAt own z w L R) from h)
  have Hb := (show Hid (SpAt own z w R.spots.length lb x) from hb)
  clear h hb
  have hF0 : Fr (fun k => k = lb.b) w ((w.setCell ⟨lb.b, 11, none⟩ (.int .i64 (-1))).setCell ⟨lb.b, 12, none⟩ (.int .i64 (-1))) := Fr.set1 (Fr.set1 (Fr.refl _ _) _ _) _ _
  have hA0 : At ((w.setCell ⟨lb.b, 11, none⟩ (.int .i64 (-1))).setCell ⟨lb.b, 12, none⟩ (.int .i64 (-1))) lb.b (({ x with owner := -1, out := -1 } : BSpot).cells lb) 130 := (Hb.out.at_.set 11 _).set 12 _
  have hnt : ∀ tag, tag ≠ Tag.spot R.spots.length → ∀ k, own k = ⟨z, tag⟩ → ¬ k = lb.b := by
    rintro tag hne k hk rfl; rw [Hb.out.tg] at hk; simp at hk; exact hne hk.symm
  have hE := Ext.refl own w
  have HR0 : Hid (BAt own z ((w.setCell ⟨lb.b, 11, none⟩ (.int .i64 (-1))).setCell ⟨lb.b, 12, none⟩ (.int .i64 (-1))) L R) := by
    have h := HR.out
    refine ⟨hF0.at h.hd (hnt _ (by simp) _ h.hown), h.hown, h.sp.fr hF0 hE (hnt _ (by simp)), h.slen, ?_, h.th.fr hF0 hE (hnt _ (by simp)), h.tlen, ?_, h.log.fr hF0 hE (hnt _ (by simp)), h.rd.fr hF0 hE (hnt _ (by simp)) (hnt _ (by simp)) (hnt _ (by simp))⟩
    · intro i l y hl hy
      have hi := (List.getElem?_eq_some_iff.1 hy).1
      exact (h.spot i l y hl hy).fr hF0 hE (hnt _ (by simp; omega)) (fun k s => hnt _ (by simp) k)
    · intro i l t hl ht
      exact (h.thr i l t hl ht).fr hF0 hE (hnt _ (by simp)) (fun k s => hnt _ (by simp) k) (hnt _ (by simp))
  have Hb0 : Hid (SpAt own z ((w.setCell ⟨lb.b, 11, none⟩ (.int .i64 (-1))).setCell ⟨lb.b, 12, none⟩ (.int .i64 (-1))) R.spots.length lb { x with owner := -1, out := -1 }) :=
    ⟨hA0, Hb.out.tg, fun s => (Hb.out.st s).fr hF0 hE (hnt _ (by simp))⟩
  have HF0 : Hid (FrZ own z w ((w.setCell ⟨lb.b, 11, none⟩ (.int .i64 (-1))).setCell ⟨lb.b, 12, none⟩ (.int .i64 (-1)))) := Fr.mono hF0 (by rintro k _ rfl; rw [Hb.out.tg])
  clear hF0 hA0 HR Hb hnt
  go_enter Tryz.func65, Tryz.ntmps65
  go_wp2_with (at_builtin; refine wpList_push _ rfl _ _ 119 rfl 0 125 iS (.pointer none) 1 8 Tryz.underlying119 hiS hzS hsS hbS rfl (by decide) _ _ _ rfl (ownsRow_alloc HR0.out.sp.row _) w.heap.size [.pointer (some ⟨lb.b, 0, none⟩)] rfl rfl 125 (At.newAt (by simp) _ _) (by simp [Value.oneCell']) (by unfold maxLen; omega) (by omega) (by simp) ?_)
  intro g cap w1 hown hg hge
  have hge' : L.sv.ownBlock = some g ∨ ((w.setCell ⟨lb.b, 11, none⟩ (.int .i64 (-1))).setCell ⟨lb.b, 12, none⟩ (.int .i64 (-1))).heap.size ≤ g := by
    rcases hge with h | h
    · exact .inl h
    · right; simp at h ⊢; omega
  have R1 := HR0.out.pushSpot Hb0.out hown (((Fr.refl _ _).alloc _).grown hg (fun k hk => .inl hk)) hge'
  obtain ⟨hR, hE2, hF2⟩ := R1
  have hA : At w1 L.s (R.head L) 123 := ((HR0.out.hd.alloc _).grown hg (HR0.out.hd.ne_row HR0.out.sp.row (by decide)))
  have hc := hA.cell
  simp only [BSt.head] at hc
  have hz := hA.frozen
  have HR' := (show Hid (BAt _ _ _ _ _) from hR)
  have HE' : Hid (Ext own (own.put g z .spl) w) := fun k hk => hE2 k (by simpa using hk)
  have HF' := (show Hid (FrZ own z w _) from FrZ.trans HF0.out (Ext.refl _ _) hF2)
  clear hA hR hF2 hE2 hown hg HF0 HR0 Hb0 hge hge' hcb hzb
  go_wp2
  go_ret
  exact ⟨_, _, ret_int (by omega), HR'.out, HE'.out, HF'.out, rfl, rfl, rfl⟩
end
end Go.Proofs.YtfccelbmacjifaaGreat

namespace Go.Proofs.YtfccelbmacjifaaGreat
open Go.RowKit
section
variable {own : Own} {z : Nat} {w : World} {L : BLay} {R : BSt}
/-- A new literal row for the new nodes. -/
theorem BAt.goesNew (h : BAt own z w L R) {w' : World} {i b : Nat} {l : TLay} {t t' : BThread} (hl : L.ths[i]? = some l) (ht : R.ts[i]? = some t) (hf : Fr (fun k => k = l.b) w w') (hb : w.heap.size ≤ b)
    (hA : At w' l.b (t'.cells { l with new := .slice (some ⟨b, 0, none⟩) t'.new.length t'.new.length }) 136) (hW : At w' b (natCells t'.new) 3) (hlen : t'.new.length ≤ maxLen)
    (e1 : t'.ospans = t.ospans) (e3 : t'.want = t.want) (e4 : t'.todo = t.todo) (e5 : t'.found = t.found) (e6 : t'.ans.spans = t.ans.spans) (e7 : t'.last.spans = t.last.spans) :
    Goes own z w L (R.setTh i t') w' := by
  have hT := h.thr i l t hl ht
  have hE : Ext own (own.put b z (.tr i 2)) w := Ext.put hb _ _
  have hn : ∀ tag, tag ≠ Tag.thread i → ∀ k, own k = ⟨z, tag⟩ → ¬ k = l.b := by
    rintro tag hne k hk rfl; rw [hT.tg] at hk; simp at hk; exact hne hk.symm
  refine h.goesRows hl rfl (FrT.one hf hT.tg (.inl rfl)) hE (l' := { l with new := .slice (some ⟨b, 0, none⟩) t'.new.length t'.new.length }) ?_
  refine ⟨hA, by rw [hE _ hT.at_.lt]; exact hT.tg, ?_, ?_, Row.lit _ _ _ hW (by simp [natCells]) hlen (Own.put_same _ _ _ _), ?_, ?_, ?_, ?_⟩
  · rw [e1]; exact hT.spans.fr hf hE (hn _ (by simp))
  · rw [e3]; exact hT.want.fr hf hE (hn _ (by simp))
  · rw [e4]; exact hT.todo.fr hf hE (hn _ (by simp))
  · rw [e5]; exact hT.found.fr hf hE (hn _ (by simp))
  · rw [e6]; exact hT.alists.fr hf hE (hn _ (by simp))
  · rw [e7]; exact hT.llists.fr hf hE (hn _ (by simp))
theorem Goes.here {w' : World} {R' : BSt} (h : BAt own z w' L R' ∧ FrZ own z w w') : Goes own z w L R' w' := ⟨own, L, h.1, Ext.refl _ _, h.2, rfl, rfl⟩
theorem Goes.trans {w1 w2 : World} {L1 : BLay} {R2 : BSt} {own1 : Own} (hE : Ext own own1 w) (hF : FrZ own z w w1) (hs : L1.s = L.s) (ht : L1.ths.map (·.b) = L.ths.map (·.b)) (h : Goes own1 z w1 L1 R2 w2) : Goes own z w L R2 w2 := by
  obtain ⟨own2, L2, h1, h2, h3, h4, h5⟩ := h
  exact ⟨own2, L2, h1, Ext.trans hE h2 hF.size, FrZ.trans hF hE h3, h4.trans hs, h5.trans ht⟩

set_option maxHeartbeats 1000000 in
set_option maxRecDepth 100000 in
theorem grownL_calls (h : BAt own z w L R) (hk : R.kind = 0) {i : Nat} {l : TLay} {t : BThread} (hl : L.ths[i]? = some l) (ht : R.ts[i]? = some t) (hn : R.spots.length < 2 ^ 42) :
    Calls Tryz.prog 178 #[.pointer (some ⟨L.s, 0, none⟩), .pointer (some ⟨l.b, 0, none⟩)] w fun e w' => e = .returned (.int .i64 R.spots.length) ∧
      Goes own z w L ((R.push (nodeOf t.okey t.ovalue t.c)).setTh i { t with new := [R.spots.length] }) w' := by
  obtain ⟨ha, haz, hal, hs, hsz, hsl, n1, n2⟩ := h.view hl ht
  have HB := (show Hid (BAt own z w L R) from h)
  have HL := (show Hid (L.ths[i]? = some l) from hl)
  have Ht := (show Hid (R.ts[i]? = some t) from ht)
  have HT := (show Hid (At w l.b _ _) from (h.thr i l t hl ht).at_)
  have HH := (show Hid (At w L.s _ _) from h.hd)
  simp only [BThread.cells, BSt.head, hk] at ha hs
  clear h hl ht
  let c0 : List Value := [.int .i64 (-1), .bool false, .int .i64 t.okey, .int .i64 t.ovalue, .int .i64 t.c, .int .i64 1, .slice none 0 0, .slice none 0 0, .bool true, .bool false, .bool false, .int .i64 0, .int .i64 0, .bool false]
  have hS1 : SpAt (own.put w.heap.size z (.spot R.spots.length)) z (w.drew.alloc (.cells c0.toArray 130)) R.spots.length ⟨w.heap.size, fun _ => .slice none 0 0⟩ { nodeOf t.okey t.ovalue t.c with owner := 0, out := 0 } :=
    ⟨At.newAt rfl _ _, Own.put_same _ _ _ _, fun s => Row.nil _ _ _ _ _ _⟩
  have hE1 : Ext own (own.put w.heap.size z (.spot R.spots.length)) w := Ext.put (Nat.le_refl _) _ _
  have hB1 : BAt (own.put w.heap.size z (.spot R.spots.length)) z (w.drew.alloc (.cells c0.toArray 130)) L R := HB.out.fr (S := fun _ => False) (((Fr.refl _ _).drew).alloc _) hE1 (fun _ _ h => h)
  have HC := (show Hid (Calls _ _ _ _ _) from spot_calls hB1 hS1 hn)
  have HE1 := (show Hid (Ext own _ w) from hE1)
  clear hS1 hE1 hB1
  go_enter Tryz.func178, Tryz.ntmps178
  go_wp2_with fail
  obtain ⟨Cs, hC0, hC0', hC1, hC1', hC2, hC2'⟩ : ∃ Cs : Nat → World → Prop, Hid (Cs 0 w.drew) ∧ Hid (∀ w', Cs 0 w' → w' = w.drew) ∧ Hid (Cs 1 (w.drew.alloc (.cells c0.toArray 130))) ∧ Hid (∀ w', Cs 1 w' → w' = w.drew.alloc (.cells c0.toArray 130)) ∧
      Hid (∀ w', (∃ own' L', BAt own' z w' L' (R.push (nodeOf t.okey t.ovalue t.c)) ∧ Ext (own.put w.heap.size z (.spot R.spots.length)) own' (w.drew.alloc (.cells c0.toArray 130)) ∧ FrZ (own.put w.heap.size z (.spot R.spots.length)) z (w.drew.alloc (.cells c0.toArray 130)) w' ∧ L'.s = L.s ∧ L'.ths = L.ths ∧ L'.sps = L.sps ++ [⟨w.heap.size, fun _ => .slice none 0 0⟩]) → Cs 2 w') ∧
      Hid (∀ w', Cs 2 w' → ∃ own' L', BAt own' z w' L' (R.push (nodeOf t.okey t.ovalue t.c)) ∧ Ext (own.put w.heap.size z (.spot R.spots.length)) own' (w.drew.alloc (.cells c0.toArray 130)) ∧ FrZ (own.put w.heap.size z (.spot R.spots.length)) z (w.drew.alloc (.cells c0.toArray 130)) w' ∧ L'.s = L.s ∧ L'.ths = L.ths ∧ L'.sps = L.sps ++ [⟨w.heap.size, fun _ => .slice none 0 0⟩]) :=
    ⟨fun k w' => match k with | 0 => w' = w.drew | 1 => w' = w.drew.alloc (.cells c0.toArray 130) | _ => ∃ own' L', BAt own' z w' L' (R.push (nodeOf t.okey t.ovalue t.c)) ∧ Ext (own.put w.heap.size z (.spot R.spots.length)) own' (w.drew.alloc (.cells c0.toArray 130)) ∧ FrZ (own.put w.heap.size z (.spot R.spots.length)) z (w.drew.alloc (.cells c0.toArray 130)) w' ∧ L'.s = L.s ∧ L'.ths = L.ths ∧ L'.sps = L.sps ++ [⟨w.heap.size, fun _ => .slice none 0 0⟩], rfl, fun _ h => h, rfl, fun _ h => h, fun _ h => h, fun _ h => h⟩
  refine wp_region_mixC [18, 19] Cs 1 rfl (by kernel_rfl) (by kernel_rfl) (by kernel_rfl) (by decide) (by kernel_rfl) (by decide) hC0.out ?_
  intro U W hU hW
  have hau : ∀ u o, (W u).cell? ⟨l.b, o, none⟩ = (t.cells l)[o]? := by
    intro u
    obtain ⟨k, hk, he⟩ := hW u
    rcases (show k = 0 ∨ k = 1 ∨ k = 2 by omega) with rfl | rfl | rfl
    · rw [hC0'.out _ he]; exact HT.out.drew.cell
    · rw [hC1'.out _ he]; exact (HT.out.drew.alloc _).cell
    · obtain ⟨own', L', hB, _, _, _, e2, _⟩ := hC2'.out _ he
      exact (hB.thr i l t (by rw [e2]; exact HL.out) Ht.out).at_.cell
  simp only [BThread.cells] at hau
  clear hW ha
  repeat (refine mix_read rfl rfl ?_; go_big_quiet_step (fail); refine wpQuiet_nil ?_)
  refine mix_effC (.pointer (some ⟨w.heap.size, 0, none⟩)) rfl rfl rfl ?_ ?_
  · intro w' hw'
    rw [hC0'.out _ hw']
    go_simp
    exact ⟨rfl, hC1.out⟩
  go_simp
  refine mix_effC (.int .i64 R.spots.length) rfl rfl rfl ?_ ?_
  · intro w' hw'
    rw [hC1'.out _ hw']
    go_simp
    refine HC.out.mono ?_
    rintro e w'' ⟨own', L', he, hrest⟩
    exact ⟨he, hC2.out _ ⟨own', L', hrest⟩⟩
  go_simp
  repeat (refine mix_read rfl rfl ?_; go_big_quiet_step (fail); refine wpQuiet_nil ?_)
  refine mix_nil ?_
  intro w2 hw2
  obtain ⟨own2, L2, hB2, hE2, hF2, e1, e2, e3⟩ := hC2'.out _ hw2
  clear hau hw2
  have hL2 : Hid (L2.ths[i]? = some l) := by show _ = _; rw [e2]; exact HL.out
  have HT2 := (show Hid (At w2 l.b _ _) from (hB2.thr i l t hL2.out Ht.out).at_)
  have ha2 := HT2.out.cell
  have hz2 := HT2.out.frozen
  have hl2 := HT2.out.lt
  simp only [BThread.cells] at ha2
  have HE2 : Hid (Ext own own2 w) := Ext.trans HE1.out hE2 (by simp)
  have HF2 : Hid (FrZ own z w w2) := by
    refine FrZ.trans (w1 := w.drew.alloc (.cells c0.toArray 130)) (((Fr.refl _ _).drew).alloc _) HE1.out hF2
  have HB2 := (show Hid (BAt own2 z w2 L2 _) from hB2)
  clear hB2 hE2 hF2 HC HE1 hs hsz haz hal
  go_wp2
  go_ret
  refine ⟨rfl, Goes.trans HE2.out HF2.out e1 (by rw [e2]) (HB2.out.goesNew (t' := { t with new := [R.spots.length] }) hL2.out Ht.out (b := w2.heap.size) ?_ (Nat.le_refl _) ?_ ?_ (by simp [maxLen]) rfl rfl rfl rfl rfl rfl)⟩
  · repeat (with_reducible first | refine Fr.set1 ?_ _ _ | refine Fr.alloc ?_ _ | refine Fr.drewN ?_ _ | refine Fr.drew ?_ | exact Fr.refl _ _)
  · exact (HT2.out.set 19 _).alloc _
  · exact At.newAt (by simp) _ _
end
end Go.Proofs.YtfccelbmacjifaaGreat

