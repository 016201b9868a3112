import Derived.Test.YtfccelbmacjifaaGreatP1
import Derived.Test.YtfccelbmacjifaaGreatRows
import Derived.Deep.QuietTactic
import Derived.BigQuiet
import Derived.BigRegion
import Derived.Test.YtfccelbmacjifaaGreatP11
namespace Go.Proofs.YtfccelbmacjifaaGreat
open Go.RowKit

/-- The store has gone on to R'; thread blocks stand where they stood. -/
def Goes (own : Own) (z : Nat) (w : World) (L : BLay) (R' : BSt) (w' : World) : Prop :=
  ∃ own' L', BAt own' z w' L' R' ∧ Ext own own' w ∧ FrZ own z w w' ∧ L'.s = L.s ∧ L'.ths.map (·.b) = L.ths.map (·.b)

set_option maxHeartbeats 400000 in
theorem between_calls (n a b : Int) (w : World) :
    Calls Tryz.prog 64 #[.int .i64 n, .int .i64 a, .int .i64 b] w fun e w' => e = .returned (.bool (isIn n a b)) ∧ w' = w := by
  by_cases h1 : a ≤ n
  · by_cases h2 : n ≤ b
    · go_enter Tryz.func64, Tryz.ntmps64
      go_wp2
      go_ret
      exact ⟨ret_bool (isIn_true (by omega)).symm, rfl⟩
    · go_enter Tryz.func64, Tryz.ntmps64
      go_wp2
      go_ret
      exact ⟨ret_bool (isIn_false (by omega)).symm, rfl⟩
  · go_enter Tryz.func64, Tryz.ntmps64
    go_wp2
    go_ret
    exact ⟨ret_bool (isIn_false (by omega)).symm, rfl⟩

section
variable {own : Own} {z : Nat} {w : World} {L : BLay} {R : BSt}

set_option maxHeartbeats 1000000 in
theorem side_calls (h : BAt own z w L R) (hk : R.kind = 0 ∨ R.kind = 1) (k : Nat) (key : Int) (hn : k < R.spots.length) :
    Calls Tryz.prog 142 #[.pointer (some ⟨L.s, 0, none⟩), .int .i64 k, .int .i64 key] w fun e w' => e = .returned (.int .i64 (b2i (R.sideOf k key))) ∧ w' = w := by
  have hc := h.hd.cell
  simp only [BSt.head] at hc
  obtain ⟨l, sb, cap, hl, hv, hcb, hx, hS⟩ := h.spotAt hn
  have hca := hS.at_.cell
  simp only [BSpot.cells] at hca
  rw [hv] at hc
  clear h hS hl hv
  rcases hk with hk | hk
  · rw [hk] at hc
    go_enter Tryz.func142, Tryz.ntmps142
    go_wp2
    go_ret
    exact ⟨by simp [BSt.sideOf, hk, b2i], rfl⟩
  · rw [hk] at hc
    by_cases h0 : k = 0
    · subst h0
      go_enter Tryz.func142, Tryz.ntmps142
      go_wp2
      go_ret
      exact ⟨by simp [BSt.sideOf, b2i], rfl⟩
    · by_cases h1 : (R.sp k).key ≤ key
      · have E : Hid (R.sideOf k key = true) := by show _ = _; simp [BSt.sideOf, hk, h0, h1]
        go_enter Tryz.func142, Tryz.ntmps142
        go_wp2
        go_ret
        exact ⟨by rw [E.out]; rfl, rfl⟩
      · have E : Hid (R.sideOf k key = false) := by show _ = _; simp [BSt.sideOf, h1]
        go_enter Tryz.func142, Tryz.ntmps142
        go_wp2
        go_ret
        exact ⟨by rw [E.out]; rfl, rfl⟩

set_option maxHeartbeats 400000 in
theorem home_calls {b : Nat} {t : BThread} {l : TLay} (h : At w b (t.cells l) 136) :
    Calls Tryz.prog 114 #[.pointer (some ⟨b, 0, none⟩)] w fun e w' => e = .returned (.tuple #[]) ∧ At w' b (t.home.cells l) 136 ∧ Fr (fun k => k = b) w w' := by
  have hc := h.cell
  have hz := h.frozen
  have H := (show Hid (At w b _ _) from h)
  clear h
  simp only [BThread.cells] at hc
  go_enter Tryz.func114, Tryz.ntmps114
  go_wp2
  go_end0
  exact ⟨rfl, ((((H.out.set 6 _).set 9 _).set 10 _).set 11 _).set 12 _, by repeat (first | exact Fr.refl _ _ | refine Fr.set1 ?_ _ _)⟩
end
end Go.Proofs.YtfccelbmacjifaaGreat

namespace Go.Proofs.YtfccelbmacjifaaGreat
open Go.RowKit
theorem Row.lit (own : Own) (z : Nat) {w : World} (tag : Tag) {e : TypeId} {size b n : Nat} {c : List Value} (hA : At w b c e) (hlen : c.length = n * size) (hn : n ≤ maxLen) (ht : own b = ⟨z, tag⟩) :
    Row own z w tag e size (.slice (some ⟨b, 0, none⟩) n n) n c := by
  refine ⟨⟨hlen, .inr ⟨b, n, c.toArray, rfl, Nat.zero_le _, hA, Nat.le_refl _, hn, by simpa using hlen, ?_⟩⟩, ?_⟩
  · rw [← hlen]; simp
  · intro k hk; simp [Value.ownBlock] at hk; subst hk; exact ht

theorem set_same {α : Type} {l : List α} {i : Nat} {x : α} (h : l[i]? = some x) : l.set i x = l := by
  apply List.ext_getElem?
  intro j
  rw [List.getElem?_set]
  split
  · next e =>
    subst e
    split
    · rw [h]
    · next h2 => simp at h2; simp [List.getElem?_eq_none h2]
  · rfl

theorem BAt.drewN {own : Own} {z : Nat} {w : World} {L : BLay} {R : BSt} (h : BAt own z w L R) (n : Nat) : BAt own z (w.drewN n) L R :=
  h.fr (S := fun _ => False) ((Fr.refl _ _).drewN n) (Ext.refl _ _) (fun _ _ h => h)
section
variable {own : Own} {z : Nat} {w : World} {L : BLay} {R : BSt}
/-- Only the cells of a thread's block have turned. -/
theorem BAt.thrCells (h : BAt own z w L R) {w' : World} {i : Nat} {l : TLay} {t t' : BThread} (hl : L.ths[i]? = some l) (ht : R.ts[i]? = some t) (hf : Fr (fun k => k = l.b) w w') (hA : At w' l.b (t'.cells l) 136)
    (e1 : t'.ospans = t.ospans) (e2 : t'.want = t.want) (e3 : t'.new = t.new) (e4 : t'.todo = t.todo) (e5 : t'.found = t.found) (e6 : t'.ans.spans = t.ans.spans) (e7 : t'.last.spans = t.last.spans) :
    BAt own z w' L (R.setTh i t') := by
  have hT := h.thr i l t hl ht
  have hF : FrT own z (fun t => t = .thread i ∨ ∃ k, t = .tr i k) w w' := FrT.one hf hT.tg (.inl rfl)
  have hn : ∀ tag, tag ≠ Tag.thread i → ∀ k, own k = ⟨z, tag⟩ → ¬ k = l.b := by
    rintro tag hne k hk rfl; rw [hT.tg] at hk; simp at hk; exact hne hk.symm
  have hE := Ext.refl own w
  have hS : ({ L with ths := L.ths.set i l } : BLay) = L := by rw [set_same hl]
  rw [← hS]
  refine h.thrSet hl rfl hF hE (l' := l) ?_
  refine ⟨hA, hT.tg, ?_, ?_, ?_, ?_, ?_, ?_, ?_⟩
  · rw [e1]; exact hT.spans.fr hf hE (hn _ (by simp))
  · rw [e2]; exact hT.want.fr hf hE (hn _ (by simp))
  · rw [e3]; exact hT.new.fr hf hE (hn _ (by simp))
  · rw [e4]; exact hT.todo.fr hf hE (hn _ (by simp))
  · rw [e5]; exact hT.found.fr hf hE (hn _ (by simp))
  · rw [e6]; exact hT.alists.fr hf hE (hn _ (by simp))
  · rw [e7]; exact hT.llists.fr hf hE (hn _ (by simp))
theorem BAt.thrZone (h : BAt own z w L R) {w' : World} {i : Nat} {l : TLay} {t : BThread} (hl : L.ths[i]? = some l) (ht : R.ts[i]? = some t) (hf : Fr (fun k => k = l.b) w w') : FrZ own z w w' :=
  Fr.mono hf (by rintro k _ rfl; rw [(h.thr i l t hl ht).tg])
theorem BAt.goesTh (h : BAt own z w L R) {w' : World} {i : Nat} {l : TLay} {t t' : BThread} (hl : L.ths[i]? = some l) (ht : R.ts[i]? = some t) (hf : Fr (fun k => k = l.b) w w') (hA : At w' l.b (t'.cells l) 136)
    (e1 : t'.ospans = t.ospans) (e2 : t'.want = t.want) (e3 : t'.new = t.new) (e4 : t'.todo = t.todo) (e5 : t'.found = t.found) (e6 : t'.ans.spans = t.ans.spans) (e7 : t'.last.spans = t.last.spans) :
    Goes own z w L (R.setTh i t') w' :=
  ⟨own, L, h.thrCells hl ht hf hA e1 e2 e3 e4 e5 e6 e7, Ext.refl _ _, h.thrZone hl ht hf, rfl, rfl⟩

set_option maxHeartbeats 2000000 in
theorem walks_onL (h : BAt own z w L R) (hk : R.kind = 0) {i : Nat} {l : TLay} {t : BThread} (hl : L.ths[i]? = some l) (ht : R.ts[i]? = some t) (hx : t.x < R.spots.length) (hc : (R.sp t.x).now t.xs < R.spots.length) (hxs : t.xs = false)
    (hon : (if R.kind = 1 then !(R.sp ((R.sp t.x).now t.xs)).leaf else decide ((R.sp ((R.sp t.x).now t.xs)).key < t.okey)) = true) :
    Calls Tryz.prog 116 #[.pointer (some ⟨L.s, 0, none⟩), .pointer (some ⟨l.b, 0, none⟩)] w fun e w' => e = .returned (.tuple #[]) ∧ Goes own z w L (R.setTh i (R.walks t)) w' := by
  have hE : Hid (R.walks t = { t with g := t.x, gs := t.xs, x := (R.sp t.x).now t.xs, xs := R.sideOf ((R.sp t.x).now t.xs) t.okey }) := by
    show _ = _
    simp only [BSt.walks, hon, if_true]
  have hT := h.thr i l t hl ht
  have ha := hT.at_.cell
  have haz := hT.at_.frozen
  have hal := hT.at_.lt
  simp only [BThread.cells] at ha
  have hs := h.hd.cell
  simp only [BSt.head] at hs
  have hsl := h.hd.lt
  obtain ⟨lx, sb, cap, hlx, hv, hcx, hsx, hSx⟩ := h.spotAt hx
  obtain ⟨lc, sb', cap', hlc, hv', hcc, hsc, hSc⟩ := h.spotAt hc
  rw [hv] at hv'
  simp only [Value.slice.injEq, Option.some.injEq, Addr.mk.injEq, and_true, true_and] at hv'
  obtain ⟨rfl, rfl⟩ := hv'
  rw [hv] at hs
  have hxc := hSx.at_.cell
  have hcca := hSc.at_.cell
  simp only [BSpot.cells] at hxc hcca
  have n1 : L.s ≠ l.b := h.hd.ne hT.at_ (by decide)
  have n2 := n1.symm
  have n3 : lx.b ≠ l.b := hSx.at_.ne hT.at_ (by decide)
  have n4 : lc.b ≠ l.b := hSc.at_.ne hT.at_ (by decide)
  have n5 := n3.symm
  have n6 := n4.symm
  have HB := (show Hid (BAt own z w L R) from h)
  have HT := (show Hid (ThAt own z w i l t) from hT)
  have HL := (show Hid (L.ths[i]? = some l) from hl)
  have Ht := (show Hid (R.ts[i]? = some t) from ht)
  clear h hT hl ht hSx hSc hlx hlc hv hsx hsc
  generalize hC : (R.sp t.x).now t.xs = c at *
  have HC := (show Hid ((R.sp t.x).now t.xs = c) from hC)
  clear hC
  rw [hxs] at ha
  have HC' := HC.out
  rw [hxs] at HC'
  rw [HC'] at hxc
  clear HC'
  simp only [b2i_false] at ha
  simp only [hk] at hon hs
  simp at hon
  go_enter Tryz.func116, Tryz.ntmps116
  go_wp2_with fail
  go_quiet (fail)
  go_wp2_with fail
  go_quiet (fail)
  go_wp2_with fail
  have hK : Hid (({ R with ts := R.ts.set i { t with g := t.x, gs := t.xs, x := c } } : BSt).kind = 0 ∨ ({ R with ts := R.ts.set i { t with g := t.x, gs := t.xs, x := c } } : BSt).kind = 1) := by show _ ∨ _; exact .inl hk
  refine (side_calls (own := own) (z := z) (L := L) (R := R.setTh i { t with g := t.x, gs := t.xs, x := c }) ?hb hK.out c t.okey hc).mono ?_
  case hb =>
    refine (HB.out.drewN _).thrCells HL.out Ht.out (by repeat (first | exact Fr.refl _ _ | refine Fr.set1 ?_ _ _)) ?_ rfl rfl rfl rfl rfl rfl rfl
    have hA := fun n => (((HT.out.at_.drewN n).set 9 (.int .i64 t.x)).set 10 (.int .i64 (b2i t.xs))).set 11 (.int .i64 c)
    simpa only [BThread.cells, hxs, b2i_false, List.set_cons_succ, List.set_cons_zero] using hA _
  rintro e w' ⟨rfl, rfl⟩
  go_wp2
  (try simp only [Exit.inBlock, Exit.then])
  refine bodyPost_ret (results_none rfl _ _ _) rfl ?_
  rw [hE.out]
  refine ⟨rfl, ?_⟩
  have hG := fun n => HB.out.goesTh (w' := ((((w.drewN n).setCell ⟨l.b, 9, none⟩ (.int .i64 t.x)).setCell ⟨l.b, 10, none⟩ (.int .i64 (b2i t.xs))).setCell ⟨l.b, 11, none⟩ (.int .i64 c)).setCell ⟨l.b, 12, none⟩ (.int .i64 (b2i (R.sideOf c t.okey))))
    (t' := { t with g := t.x, gs := t.xs, x := c, xs := R.sideOf c t.okey }) HL.out Ht.out (by repeat (first | exact (Fr.refl _ _).drewN _ | refine Fr.set1 ?_ _ _)) ((((HT.out.at_.drewN n).set 9 _).set 10 _).set 11 _ |>.set 12 _) rfl rfl rfl rfl rfl rfl rfl
  simp only [hxs, b2i_false] at hG ⊢
  exact hG _
end
end Go.Proofs.YtfccelbmacjifaaGreat

namespace Go.Proofs.YtfccelbmacjifaaGreat
open Go.RowKit
section
variable {own : Own} {z : Nat} {w : World} {L : BLay} {R : BSt}
theorem ths_same {L : BLay} {i : Nat} {l l' : TLay} (hl : L.ths[i]? = some l) (hb : l'.b = l.b) : (L.ths.set i l').map (·.b) = L.ths.map (·.b) := by
  rw [List.map_set]
  apply set_same
  simp [hl, hb]
/-- A thread's block and some of its rows have turned. -/
theorem BAt.goesRows (h : BAt own z w L R) {w' : World} {i : Nat} {l l' : TLay} {t' : BThread} {own' : Own} (hl : L.ths[i]? = some l) (hb : l'.b = l.b)
    (hf : FrT own z (fun t => t = .thread i ∨ ∃ k, t = .tr i k) w w') (hE : Ext own own' w) (hx : ThAt own' z w' i l' t') : Goes own z w L (R.setTh i t') w' :=
  ⟨own', _, h.thrSet hl hb hf hE hx, hE, hf.zone, rfl, ths_same hl hb⟩
/-- A new literal row for the wanted locks. -/
theorem BAt.goesWant (h : BAt own z w L R) {w' : World} {i b : Nat} {l : TLay} {t t' : BThread} (hl : L.ths[i]? = some l) (ht : R.ts[i]? = some t) (hf : Fr (fun k => k = l.b) w w') (hb : w.heap.size ≤ b)
    (hA : At w' l.b (t'.cells { l with want := .slice (some ⟨b, 0, none⟩) t'.want.length t'.want.length }) 136) (hW : At w' b (natCells t'.want) 3) (hlen : t'.want.length ≤ maxLen)
    (e1 : t'.ospans = t.ospans) (e3 : t'.new = t.new) (e4 : t'.todo = t.todo) (e5 : t'.found = t.found) (e6 : t'.ans.spans = t.ans.spans) (e7 : t'.last.spans = t.last.spans) :
    Goes own z w L (R.setTh i t') w' := by
  have hT := h.thr i l t hl ht
  have hE : Ext own (own.put b z (.tr i 1)) w := Ext.put hb _ _
  have hn : ∀ tag, tag ≠ Tag.thread i → ∀ k, own k = ⟨z, tag⟩ → ¬ k = l.b := by
    rintro tag hne k hk rfl; rw [hT.tg] at hk; simp at hk; exact hne hk.symm
  refine h.goesRows hl rfl (FrT.one hf hT.tg (.inl rfl)) hE (l' := { l with want := .slice (some ⟨b, 0, none⟩) t'.want.length t'.want.length }) ?_
  refine ⟨hA, by rw [hE _ hT.at_.lt]; exact hT.tg, ?_, Row.lit _ _ _ hW (by simp [natCells]) hlen (Own.put_same _ _ _ _), ?_, ?_, ?_, ?_, ?_⟩
  · rw [e1]; exact hT.spans.fr hf hE (hn _ (by simp))
  · rw [e3]; exact hT.new.fr hf hE (hn _ (by simp))
  · rw [e4]; exact hT.todo.fr hf hE (hn _ (by simp))
  · rw [e5]; exact hT.found.fr hf hE (hn _ (by simp))
  · rw [e6]; exact hT.alists.fr hf hE (hn _ (by simp))
  · rw [e7]; exact hT.llists.fr hf hE (hn _ (by simp))

set_option maxHeartbeats 2000000 in
theorem walks_offL (h : BAt own z w L R) (hk : R.kind = 0) {i : Nat} {l : TLay} {t : BThread} (hl : L.ths[i]? = some l) (ht : R.ts[i]? = some t) (hx : t.x < R.spots.length) (hc : (R.sp t.x).now t.xs < R.spots.length) (hxs : t.xs = false)
    (hon : (if R.kind = 1 then !(R.sp ((R.sp t.x).now t.xs)).leaf else decide ((R.sp ((R.sp t.x).now t.xs)).key < t.okey)) = false) :
    Calls Tryz.prog 116 #[.pointer (some ⟨L.s, 0, none⟩), .pointer (some ⟨l.b, 0, none⟩)] w fun e w' => e = .returned (.tuple #[]) ∧ Goes own z w L (R.setTh i (R.walks t)) w' := by
  have hE : Hid (R.walks t = { t with c := (R.sp t.x).now t.xs, at_ := 5, have_ := 0, want := if t.okind = 2 ∧ (R.sp ((R.sp t.x).now t.xs)).key = t.okey then (if R.kind = 1 then [t.g, t.x] else [t.x, (R.sp t.x).now t.xs]) else [t.x] }) := by
    show _ = _
    simp only [BSt.walks, hon, if_false, Bool.false_eq_true]
  have hT := h.thr i l t hl ht
  have ha := hT.at_.cell
  have haz := hT.at_.frozen
  have hal := hT.at_.lt
  simp only [BThread.cells] at ha
  have hs := h.hd.cell
  simp only [BSt.head] at hs
  have hsl := h.hd.lt
  obtain ⟨lx, sb, cap, hlx, hv, hcx, hsx, hSx⟩ := h.spotAt hx
  obtain ⟨lc, sb', cap', hlc, hv', hcc, hsc, hSc⟩ := h.spotAt hc
  rw [hv] at hv'
  simp only [Value.slice.injEq, Option.some.injEq, Addr.mk.injEq, and_true, true_and] at hv'
  obtain ⟨rfl, rfl⟩ := hv'
  rw [hv] at hs
  have hxc := hSx.at_.cell
  have hcca := hSc.at_.cell
  simp only [BSpot.cells] at hxc hcca
  have n1 : L.s ≠ l.b := h.hd.ne hT.at_ (by decide)
  have n2 := n1.symm
  have n3 : lx.b ≠ l.b := hSx.at_.ne hT.at_ (by decide)
  have n4 : lc.b ≠ l.b := hSc.at_.ne hT.at_ (by decide)
  have n5 := n3.symm
  have n6 := n4.symm
  have hcl := hSc.at_.lt
  have HB := (show Hid (BAt own z w L R) from h)
  have HT := (show Hid (ThAt own z w i l t) from hT)
  have HL := (show Hid (L.ths[i]? = some l) from hl)
  have Ht := (show Hid (R.ts[i]? = some t) from ht)
  clear h hT hl ht hSx hSc hlx hlc hv hsx hsc
  generalize hC : (R.sp t.x).now t.xs = c at *
  have HC := (show Hid ((R.sp t.x).now t.xs = c) from hC)
  clear hC
  by_cases hkd : t.okind = 2
  · by_cases hke : (R.sp c).key = t.okey
    · have hW := hE.out
      rw [if_pos ⟨hkd, hke⟩, if_neg (by rw [hk]; decide)] at hW
      have HW := (show Hid (R.walks t = _) from hW)
      clear hW hE
      have hkd' : Hid (t.okind = 2) := hkd
      rw [hkd] at ha
      clear hkd
      rw [hke] at hcca
      rw [hxs] at ha
      have HC' := HC.out
      rw [hxs] at HC'
      rw [HC'] at hxc
      clear HC'
      simp only [b2i_false] at ha
      simp only [hk] at hon hs
      simp at hon
      go_enter Tryz.func116, Tryz.ntmps116
      go_wp2_with fail
      go_quiet (fail)
      go_wp2_with fail
      go_quiet (fail)
      go_wp2_with fail
      go_quiet (fail)
      go_wp2_with fail
      go_end0
      refine ⟨rfl, ?_⟩
      rw [HW.out]
      refine HB.out.goesWant HL.out Ht.out (b := w.heap.size + 1) (by repeat (with_reducible first | refine Fr.set1 ?_ _ _ | refine Fr.alloc ?_ _ | refine Fr.drewN ?_ _ | exact Fr.refl _ _)) (by omega) ?_ (At.newAt (by simp) _ _) (by simp [maxLen]) rfl rfl rfl rfl rfl rfl
      exact (((((((HT.out.at_.drewN _).set 13 _).set 6 _).set 15 _).set 14 _).alloc _).drewN _).set 14 _ |>.alloc _
    · have hW := hE.out
      rw [if_neg (fun h => hke h.2)] at hW
      have HW := (show Hid (R.walks t = _) from hW)
      clear hW hE
      have hd : ((R.sp c).key == t.okey) = false := by simp [hke]
      rw [hkd] at ha
      clear hkd hke
      rw [hxs] at ha
      have HC' := HC.out
      rw [hxs] at HC'
      rw [HC'] at hxc
      clear HC'
      simp only [b2i_false] at ha
      simp only [hk] at hon hs
      simp at hon
      go_enter Tryz.func116, Tryz.ntmps116
      go_wp2_with fail
      go_quiet (fail)
      go_wp2_with fail
      go_quiet (fail)
      go_wp2_with fail
      go_quiet (fail)
      go_wp2_with fail
      go_end0
      refine ⟨rfl, ?_⟩
      rw [HW.out]
      refine HB.out.goesWant HL.out Ht.out (b := w.heap.size) (by repeat (with_reducible first | refine Fr.set1 ?_ _ _ | refine Fr.alloc ?_ _ | refine Fr.drewN ?_ _ | exact Fr.refl _ _)) (by omega) ?_ (At.newAt (by simp) _ _) (by simp [maxLen]) rfl rfl rfl rfl rfl rfl
      exact ((((((HT.out.at_.drewN _).set 13 _).set 6 _).set 15 _).set 14 _).alloc _).drewN _
  · have hW := hE.out
    rw [if_neg (fun h => hkd h.1)] at hW
    have HW := (show Hid (R.walks t = _) from hW)
    clear hW hE
    have hd : (t.okind == 2) = false := by simp [hkd]
    clear hkd
    rw [hxs] at ha
    have HC' := HC.out
    rw [hxs] at HC'
    rw [HC'] at hxc
    clear HC'
    simp only [b2i_false] at ha
    simp only [hk] at hon hs
    simp at hon
    go_enter Tryz.func116, Tryz.ntmps116
    go_wp2_with fail
    go_quiet (fail)
    go_wp2_with fail
    go_quiet (fail)
    go_wp2_with fail
    go_quiet (fail)
    go_wp2_with fail
    go_end0
    refine ⟨rfl, ?_⟩
    rw [HW.out]
    refine HB.out.goesWant HL.out Ht.out (b := w.heap.size) (by repeat (with_reducible first | refine Fr.set1 ?_ _ _ | refine Fr.alloc ?_ _ | refine Fr.drewN ?_ _ | exact Fr.refl _ _)) (by omega) ?_ (At.newAt (by simp) _ _) (by simp [maxLen]) rfl rfl rfl rfl rfl rfl
    exact ((((((HT.out.at_.drewN _).set 13 _).set 6 _).set 15 _).set 14 _).alloc _).drewN _
end
end Go.Proofs.YtfccelbmacjifaaGreat

namespace Go.Proofs.YtfccelbmacjifaaGreat
open Go.RowKit
theorem modify_set {α : Type} (f : α → α) : ∀ (l : List α) (i : Nat) (x : α), l[i]? = some x → l.modify i f = l.set i (f x)
  | [], i, x, h => by simp at h
  | y :: r, 0, x, h => by simp at h; subst h; rfl
  | y :: r, i + 1, x, h => by
    simp only [List.getElem?_cons_succ] at h
    simp only [List.modify_succ_cons, List.set_cons_succ, modify_set f r i x h]
theorem BSt.mapSp_set {R : BSt} {i : Nat} (hi : i < R.spots.length) (f : BSpot → BSpot) : R.mapSp i f = { R with spots := R.spots.set i (f (R.sp i)) } := by
  unfold BSt.mapSp
  rw [modify_set f R.spots i (R.sp i) (by simp [BSt.sp, hi])]
theorem BSt.mapSp_len (R : BSt) (i : Nat) (f : BSpot → BSpot) : (R.mapSp i f).spots.length = R.spots.length := by simp [BSt.mapSp]
theorem BSt.unown_len : ∀ (l : List Nat) (R : BSt), (R.unown l).spots.length = R.spots.length
  | [], _ => rfl
  | k :: r, R => by simp only [BSt.unown, BSt.unown_len r, BSt.mapSp_len]
theorem BSt.unown_ts : ∀ (l : List Nat) (R : BSt), (R.unown l).ts = R.ts
  | [], _ => rfl
  | k :: r, R => by simp only [BSt.unown, BSt.unown_ts r, BSt.mapSp]
theorem BSt.unown_app : ∀ (l : List Nat) (R : BSt) (k : Nat), R.unown (l ++ [k]) = (R.unown l).mapSp k fun x => { x with owner := -1 }
  | [], _, _ => rfl
  | _ :: r, R, k => by simp only [List.cons_append, BSt.unown, BSt.unown_app r]
theorem BSt.unown_take {R : BSt} {l : List Nat} {k p : Nat} (h : l[k]? = some p) : R.unown (l.take (k + 1)) = (R.unown (l.take k)).mapSp p fun x => { x with owner := -1 } := by
  rw [List.take_add_one, h, Option.toList, BSt.unown_app]

section
variable {own : Own} {z : Nat} {w : World} {L : BLay} {R : BSt}
/-- Only the cells of a spot's block have turned. -/
theorem BAt.spotCells (h : BAt own z w L R) {w' : World} {i : Nat} {l : SLay} {x' : BSpot} (hl : L.sps[i]? = some l) (hi : i < R.spots.length) (hf : Fr (fun k => k = l.b) w w') (hA : At w' l.b (x'.cells l) 130)
    (e : x'.st = (R.sp i).st) : BAt own z w' L { R with spots := R.spots.set i x' } := by
  have hx : R.spots[i]? = some (R.sp i) := by simp [BSt.sp, hi]
  have hS := h.spot i l _ hl hx
  have hn : ∀ tag, tag ≠ Tag.spot i → ∀ k, own k = ⟨z, tag⟩ → ¬ k = l.b := by
    rintro tag hne k hk rfl; rw [hS.tg] at hk; simp at hk; exact hne hk.symm
  have hE := Ext.refl own w
  have hL : ({ L with sps := L.sps.set i ⟨l.b, l.st⟩ } : BLay) = L := by rw [show (⟨l.b, l.st⟩ : SLay) = l from rfl, set_same hl]
  rw [← hL]
  refine h.spotSet hl (FrT.one hf hS.tg (.inl rfl)) hE (st' := l.st) ⟨hA, hS.tg, ?_⟩
  intro s; rw [e]; exact (hS.st s).fr hf hE (hn _ (by simp))
theorem BAt.spotZone (h : BAt own z w L R) {w' : World} {i : Nat} {l : SLay} (hl : L.sps[i]? = some l) (hi : i < R.spots.length) (hf : Fr (fun k => k = l.b) w w') : FrZ own z w w' :=
  Fr.mono hf (by rintro k _ rfl; rw [(h.spot i l (R.sp i) hl (by simp [BSt.sp, hi])).tg])
/-- The cells of a thread's block and of a spot's have turned. -/
theorem BAt.bothCells (h : BAt own z w L R) {w' : World} {i p : Nat} {l : TLay} {t t' : BThread} {lp : SLay} {x' : BSpot} (hl : L.ths[i]? = some l) (ht : R.ts[i]? = some t) (hlp : L.sps[p]? = some lp) (hp : p < R.spots.length)
    (hf : Fr (fun k => k = l.b ∨ k = lp.b) w w') (hA : At w' l.b (t'.cells l) 136) (hX : At w' lp.b (x'.cells lp) 130) (e : x'.st = (R.sp p).st)
    (e1 : t'.ospans = t.ospans) (e2 : t'.want = t.want) (e3 : t'.new = t.new) (e4 : t'.todo = t.todo) (e5 : t'.found = t.found) (e6 : t'.ans.spans = t.ans.spans) (e7 : t'.last.spans = t.last.spans) :
    BAt own z w' L (({ R with spots := R.spots.set p x' } : BSt).setTh i t') ∧ FrZ own z w w' := by
  have hT := h.thr i l t hl ht
  have hxp : R.spots[p]? = some (R.sp p) := by simp [BSt.sp, hp]
  have hS := h.spot p lp _ hlp hxp
  have hE := Ext.refl own w
  have hn : ∀ tag, tag ≠ Tag.thread i → tag ≠ Tag.spot p → ∀ k, own k = ⟨z, tag⟩ → ¬ (k = l.b ∨ k = lp.b) := by
    rintro tag hne hne' k hk (rfl | rfl)
    · rw [hT.tg] at hk; simp at hk; exact hne hk.symm
    · rw [hS.tg] at hk; simp at hk; exact hne' hk.symm
  refine ⟨⟨hf.at h.hd (hn _ (by simp) (by simp) _ h.hown), h.hown, ?_, by simp [h.slen, BSt.setTh], ?_, ?_, by simp [h.tlen, BSt.setTh], ?_, h.log.fr hf hE (hn _ (by simp) (by simp)),
    h.rd.fr hf hE (hn _ (by simp) (by simp)) (hn _ (by simp) (by simp)) (hn _ (by simp) (by simp))⟩, Fr.mono hf ?_⟩
  · simp only [BSt.setTh, List.length_set]; exact h.sp.fr hf hE (hn _ (by simp) (by simp))
  · intro j lj xj hlj hxj
    simp only [BSt.setTh, List.getElem?_set] at hxj
    by_cases ej : p = j
    · subst ej
      rw [if_pos rfl, if_pos hp] at hxj
      simp only [Option.some.injEq] at hxj
      subst hxj
      rw [hlp] at hlj; simp at hlj; subst hlj
      exact ⟨hX, hS.tg, fun s => by rw [e]; exact (hS.st s).fr hf hE (hn _ (by simp) (by simp))⟩
    · rw [if_neg ej] at hxj
      exact (h.spot j lj xj hlj hxj).fr hf hE (hn _ (by simp) (by simp; omega)) (fun k s => hn _ (by simp) (by simp) k)
  · simp only [BSt.setTh, List.length_set]; exact h.th.fr hf hE (hn _ (by simp) (by simp))
  · intro j lj tj hlj htj
    simp only [BSt.setTh, List.getElem?_set] at htj
    by_cases ej : i = j
    · subst ej
      rw [if_pos rfl, if_pos (List.getElem?_eq_some_iff.1 ht).1] at htj
      simp only [Option.some.injEq] at htj
      subst htj
      rw [hl] at hlj; simp at hlj; subst hlj
      refine ⟨hA, hT.tg, ?_, ?_, ?_, ?_, ?_, ?_, ?_⟩
      · rw [e1]; exact hT.spans.fr hf hE (hn _ (by simp) (by simp))
      · rw [e2]; exact hT.want.fr hf hE (hn _ (by simp) (by simp))
      · rw [e3]; exact hT.new.fr hf hE (hn _ (by simp) (by simp))
      · rw [e4]; exact hT.todo.fr hf hE (hn _ (by simp) (by simp))
      · rw [e5]; exact hT.found.fr hf hE (hn _ (by simp) (by simp))
      · rw [e6]; exact hT.alists.fr hf hE (hn _ (by simp) (by simp))
      · rw [e7]; exact hT.llists.fr hf hE (hn _ (by simp) (by simp))
    · rw [if_neg ej] at htj
      exact (h.thr j lj tj hlj htj).fr hf hE (hn _ (by simp; omega) (by simp)) (fun k s => hn _ (by simp) (by simp) k) (hn _ (by simp) (by simp))
  · rintro k _ (rfl | rfl)
    · rw [hT.tg]
    · rw [hS.tg]
/-- What a walk over a store and a thread of it wants to know. -/
theorem BAt.view (h : BAt own z w L R) {i : Nat} {l : TLay} {t : BThread} (hl : L.ths[i]? = some l) (ht : R.ts[i]? = some t) :
    (∀ o, w.cell? ⟨l.b, o, none⟩ = (t.cells l)[o]?) ∧ (∀ o, w.frozen? ⟨l.b, o, none⟩ = false) ∧ l.b < w.heap.size ∧ (∀ o, w.cell? ⟨L.s, o, none⟩ = (R.head L)[o]?) ∧ (∀ o, w.frozen? ⟨L.s, o, none⟩ = false) ∧ L.s < w.heap.size ∧ L.s ≠ l.b ∧ l.b ≠ L.s := by
  have hT := h.thr i l t hl ht
  have n1 : L.s ≠ l.b := h.hd.ne hT.at_ (by decide)
  exact ⟨hT.at_.cell, hT.at_.frozen, hT.at_.lt, h.hd.cell, h.hd.frozen, h.hd.lt, n1, n1.symm⟩
/-- And of a spot. -/
theorem BAt.viewSp (h : BAt own z w L R) {i : Nat} {l : TLay} {t : BThread} (hl : L.ths[i]? = some l) (ht : R.ts[i]? = some t) {k : Nat} (hk : k < R.spots.length) {sb cap : Nat} (hv : L.sv = .slice (some ⟨sb, 0, none⟩) R.spots.length cap) :
    ∃ lk : SLay, L.sps[k]? = some lk ∧ w.cell? ⟨sb, k, none⟩ = some (.pointer (some ⟨lk.b, 0, none⟩)) ∧ (∀ o, w.cell? ⟨lk.b, o, none⟩ = ((R.sp k).cells lk)[o]?) ∧ (∀ o, w.frozen? ⟨lk.b, o, none⟩ = false) ∧ lk.b < w.heap.size ∧
      lk.b ≠ l.b ∧ l.b ≠ lk.b ∧ lk.b ≠ L.s ∧ L.s ≠ lk.b ∧ sb ≠ lk.b ∧ At w lk.b ((R.sp k).cells lk) 130 := by
  obtain ⟨lk, sb', cap', h1, h2, h3, h4, h5⟩ := h.spotAt hk
  rw [hv] at h2
  simp only [Value.slice.injEq, Option.some.injEq, Addr.mk.injEq, and_true, true_and] at h2
  obtain ⟨rfl, rfl⟩ := h2
  have n1 : lk.b ≠ l.b := h5.at_.ne (h.thr i l t hl ht).at_ (by decide)
  have n2 : lk.b ≠ L.s := h5.at_.ne h.hd (by decide)
  have n3 := h5.at_.ne_row h.sp.row (by decide)
  rw [hv] at n3
  have n3' : sb ≠ lk.b := by simpa [Value.ownBlock] using n3
  exact ⟨lk, h1, h3, h5.at_.cell, h5.at_.frozen, h5.at_.lt, n1, n1.symm, n2, n2.symm, n3', h5.at_⟩
theorem BAt.svShape (h : BAt own z w L R) (hn : 0 < R.spots.length) : ∃ sb cap, L.sv = .slice (some ⟨sb, 0, none⟩) R.spots.length cap := by
  obtain ⟨sb, cap, hv, _⟩ := ownsRow_shape h.sp.row (by omega)
  exact ⟨sb, cap, hv⟩

set_option maxHeartbeats 1000000 in
theorem gives_calls (h : BAt own z w L R) {i : Nat} {l : TLay} {t : BThread} (hl : L.ths[i]? = some l) (ht : R.ts[i]? = some t) (hh : t.have_ ≤ t.want.length) (hw : ∀ p ∈ t.want, p < R.spots.length) (hb : t.want.length ≤ 2) :
    Calls Tryz.prog 144 #[.pointer (some ⟨L.s, 0, none⟩), .pointer (some ⟨l.b, 0, none⟩)] w fun e w' => e = .returned (.tuple #[]) ∧ BAt own z w' L (R.gives i t) ∧ FrZ own z w w' := by
  have HB := (show Hid (BAt own z w L R) from h)
  have HL := (show Hid (L.ths[i]? = some l) from hl)
  have Ht := (show Hid (R.ts[i]? = some t) from ht)
  have HW := (show Hid (∀ p ∈ t.want, p < R.spots.length) from hw)
  have hb' : t.have_ ≤ 2 := by omega
  clear h hl ht hw
  go_enter Tryz.func144, Tryz.ntmps144
  go_wp2_with fail
  go_loopw [4] (fun k wr => ∃ j : Nat, j ≤ t.have_ ∧ k = .int .i64 j ∧ Hid (BAt own z wr L (R.unown (t.want.take j))) ∧ Hid (FrZ own z w wr)) (fun k _ => t.have_ - (intOf k).toNat)
  case atStart => exact ⟨0, Nat.zero_le _, rfl, HB, Fr.refl _ _⟩
  case round =>
    obtain ⟨j, hj, rfl, HBj, HF⟩ := hrel
    have hts : (R.unown (t.want.take j)).ts[i]? = some t := by rw [BSt.unown_ts]; exact Ht.out
    obtain ⟨ha, haz, hal, hs, hsz, hsl, n1, n2⟩ := HBj.out.view HL.out hts
    simp only [BThread.cells, BSt.head] at ha hs
    by_cases hlt : j < t.have_
    · have hjw : j < t.want.length := by omega
      have hp : t.want[j]? = some t.want[j] := List.getElem?_eq_getElem hjw
      have hpl := HW.out _ (List.getElem_mem hjw)
      generalize t.want[j] = p at hp hpl
      have hpl' : p < (R.unown (t.want.take j)).spots.length := by rw [BSt.unown_len]; exact hpl
      obtain ⟨sb, cap, hv⟩ := HBj.out.svShape (by omega)
      obtain ⟨lk, hlk, hck, hkc, hkz, hkl, m1, m2, m3, m4, m5, hAk⟩ := HBj.out.viewSp HL.out hts hpl' hv
      rw [hv] at hs
      simp only [BSpot.cells] at hkc
      obtain ⟨wb, wcap, hwv, _⟩ := ownsRow_shape (HBj.out.thr i l t HL.out hts).want.row (by omega)
      rw [hwv] at ha
      have how := (HBj.out.thr i l t HL.out hts).want.row
      rw [hwv] at how
      have hcw : wr.cell? ⟨wb, j, none⟩ = some (.int .i64 p) := ownsRow_cell how (by simp [natCells, hp])
      have HA := (show Hid (At wr lk.b _ _) from hAk)
      have hlen : Hid ((R.unown (t.want.take j)).spots.length = R.spots.length) := BSt.unown_len _ _
      have HP := (show Hid (t.want[j]? = some p) from hp)
      have HLK := (show Hid (L.sps[p]? = some lk) from hlk)
      clear hv hAk hts hwv how hp hlk
      rw [hlen.out] at hs hpl'
      go_wp2_with fail
      go_region
      go_wp2
      go_roundw
      case rel =>
        have hpl2 : p < (R.unown (t.want.take j)).spots.length := by rw [hlen.out]; exact hpl
        refine ⟨j + 1, by omega, by go_num, ?_, ?_⟩
        · show BAt _ _ _ _ _
          rw [BSt.unown_take HP.out, BSt.mapSp_set hpl2]
          refine HBj.out.spotCells HLK.out hpl2 (by repeat (with_reducible first | refine Fr.set1 ?_ _ _ | refine Fr.alloc ?_ _ | refine Fr.drewN ?_ _ | refine Fr.drew ?_ | exact Fr.refl _ _)) ?_ rfl
          first | exact (HA.out.set 11 _).drew | exact HA.out.drew.set 11 _
        · show FrZ _ _ _ _
          refine FrZ.trans HF.out (Ext.refl _ _) (HBj.out.spotZone HLK.out hpl2 ?_)
          repeat (with_reducible first | refine Fr.set1 ?_ _ _ | refine Fr.alloc ?_ _ | refine Fr.drewN ?_ _ | refine Fr.drew ?_ | exact Fr.refl _ _)
      case measure => simp [intOf]; omega
    · have hje : j = t.have_ := by omega
      subst hje
      have HTs := (show Hid ((R.unown (t.want.take t.have_)).ts[i]? = some t) from hts)
      have HA := (show Hid (At wr l.b _ _) from (HBj.out.thr i l t HL.out hts).at_)
      clear hts
      go_wp2
      go_end0
      refine ⟨rfl, ?_, ?_⟩
      · exact HBj.out.thrCells HL.out HTs.out (by repeat (with_reducible first | refine Fr.set1 ?_ _ _ | refine Fr.alloc ?_ _ | refine Fr.drewN ?_ _ | refine Fr.drew ?_ | exact Fr.refl _ _)) (HA.out.set 15 _) rfl rfl rfl rfl rfl rfl rfl
      · refine FrZ.trans HF.out (Ext.refl _ _) (HBj.out.thrZone HL.out HTs.out ?_)
        repeat (with_reducible first | refine Fr.set1 ?_ _ _ | refine Fr.alloc ?_ _ | refine Fr.drewN ?_ _ | refine Fr.drew ?_ | exact Fr.refl _ _)
end
end Go.Proofs.YtfccelbmacjifaaGreat

namespace Go.Proofs.YtfccelbmacjifaaGreat
open Go.RowKit
set_option maxHeartbeats 1000000 in
theorem may_calls (kind key value : Int) (sp : Value) (w : World) (hkd : kind = 1 ∨ kind = 2) :
    Calls Tryz.prog 93 #[opVal kind key value sp] w fun e w' => e = .returned (.int .i64 (if isIn key 0 (2 ^ 40) then 0 else 5)) ∧ Fr (fun _ => False) w w' := by
  have hA := (At.new w [.int .i64 kind, .int .i64 key, .int .i64 value, sp] 82).cell
  unfold opVal
  cases hk : isIn key 0 (2 ^ 40)
  all_goals
    rcases hkd with rfl | rfl
    all_goals
      go_enter Tryz.func93, Tryz.ntmps93
      go_wp2_with fail
      refine (between_calls _ 1 4 _).mono ?_
      rintro e w' ⟨rfl, rfl⟩
      rw [isIn_true (by omega)]
      go_wp2_with fail
      refine (between_calls key 0 1099511627776 _).mono ?_
      rintro e w' ⟨rfl, rfl⟩
      have hk' : isIn key 0 1099511627776 = _ := hk
      rw [hk']
      go_wp2
      go_ret
      exact ⟨rfl, (Fr.refl _ _).alloc _⟩
section
variable {own : Own} {z : Nat} {w : World} {L : BLay} {R : BSt}
/-- A thread begins anew, in a block of its own. -/
theorem BAt.thrNew (h : BAt own z w L R) {w' : World} {i nb tb cap : Nat} {l : TLay} {t t' : BThread} (hl : L.ths[i]? = some l) (ht : R.ts[i]? = some t) (htv : L.tv = .slice (some ⟨tb, 0, none⟩) R.ts.length cap)
    (hf : Fr (fun k => k = tb) w w') (hnb : w.heap.size ≤ nb) (hrow : w'.ownsRow 0 131 1 L.tv R.ts.length ((tptrs L.ths).set i (.pointer (some ⟨nb, 0, none⟩))))
    (hA : At w' nb (t'.cells ⟨nb, .slice none 0 0, .slice none 0 0, .slice none 0 0, .slice none 0 0, .slice none 0 0, .slice none 0 0, l.lspans⟩) 136)
    (e1 : t'.ospans = []) (e2 : t'.want = []) (e3 : t'.new = []) (e4 : t'.todo = []) (e5 : t'.found = []) (e6 : t'.ans.spans = []) (e7 : t'.last.spans = t.last.spans) :
    ∃ own' L', BAt own' z w' L' (R.setTh i t') ∧ Ext own own' w ∧ FrZ own z w w' ∧ L'.s = L.s := by
  have hE : Ext own (own.put nb z (.thread i)) w := Ext.put hnb _ _
  have htb : own tb = ⟨z, .thl⟩ := h.th.tg tb (by rw [htv]; rfl)
  have hF : FrZ own z w w' := Fr.mono hf (by rintro k _ rfl; rw [htb])
  have hn : ∀ tag, tag ≠ Tag.thl → ∀ k, own k = ⟨z, tag⟩ → ¬ k = tb := by
    rintro tag hne k hk rfl; rw [htb] at hk; simp at hk; exact hne hk.symm
  have hT := h.thr i l t hl ht
  refine ⟨own.put nb z (.thread i), { L with ths := L.ths.set i ⟨nb, .slice none 0 0, .slice none 0 0, .slice none 0 0, .slice none 0 0, .slice none 0 0, .slice none 0 0, l.lspans⟩ }, ?_, hE, hF, rfl⟩
  have hh := at_fr h.hd h.hown hf hE (hn _ (by simp))
  refine ⟨hh.1, hh.2, h.sp.fr hf hE (hn _ (by simp)), h.slen, fun j lx x hlx hx => (h.spot j lx x hlx hx).fr hf hE (hn _ (by simp)) (fun k s => hn _ (by simp) k), ?_, by simp [h.tlen, BSt.setTh], ?_, h.log.fr hf hE (hn _ (by simp)), h.rd.fr hf hE (hn _ (by simp)) (hn _ (by simp)) (hn _ (by simp))⟩
  · refine ⟨?_, ?_⟩
    · show w'.ownsRow 0 _ 1 L.tv (R.setTh i t').ts.length (tptrs (L.ths.set i _))
      have e : tptrs (L.ths.set i ⟨nb, .slice none 0 0, .slice none 0 0, .slice none 0 0, .slice none 0 0, .slice none 0 0, .slice none 0 0, l.lspans⟩) = (tptrs L.ths).set i (.pointer (some ⟨nb, 0, none⟩)) := by
        unfold tptrs; rw [List.map_set]
      rw [e]
      simpa [BSt.setTh] using hrow
    · intro k hk
      have hk' : L.tv.ownBlock = some k := hk
      rw [hE k (ownsRow_lt h.th.row hk')]
      exact h.th.tg k hk'
  · intro j l1 t1 hl1 ht1
    simp only [List.getElem?_set, BSt.setTh] at hl1 ht1
    by_cases e : i = j
    · subst e
      rw [if_pos rfl] at hl1 ht1
      split at hl1 <;> simp at hl1
      split at ht1 <;> simp at ht1
      subst hl1; subst ht1
      refine ⟨hA, Own.put_same _ _ _ _, ?_, ?_, ?_, ?_, ?_, ?_, ?_⟩
      · rw [e1]; exact Row.nil _ _ _ _ _ _
      · rw [e2]; exact Row.nil _ _ _ _ _ _
      · rw [e3]; exact Row.nil _ _ _ _ _ _
      · rw [e4]; exact Row.nil _ _ _ _ _ _
      · rw [e5]; exact Row.nil _ _ _ _ _ _
      · rw [e6]; exact ListsAt.none _ _ _
      · rw [e7]; exact hT.llists.fr hf hE (hn _ (by simp))
    · rw [if_neg e] at hl1 ht1
      exact (h.thr j l1 t1 hl1 ht1).fr hf hE (hn _ (by simp)) (fun k j => hn _ (by simp) k) (hn _ (by simp))
theorem mayOp_upd (kind key : Int) (spans : List (Int × Int)) (hkd : kind = 1 ∨ kind = 2) : mayOp kind key spans = if isIn key 0 (2 ^ 40) then 0 else 5 := by
  unfold mayOp; rw [isIn_true (by omega), if_pos rfl, if_pos (by omega)]

end
end Go.Proofs.YtfccelbmacjifaaGreat

