import Derived.Test.YtfccelbmacjifaaGreatP23
import Derived.Test.YtfccelbmacjifaaGreatP21
import Derived.Test.YtfccelbmacjifaaGreatP11
namespace Go.Proofs.YtfccelbmacjifaaGreat
open Go.RowKit
section
variable {own : Own} {z : Nat} {w : World} {L : ZLay} {P : PSt}
theorem rows_ne {w : World} {e e' : TypeId} {s s' : Nat} {v v' : Value} {n n' : Nat} {xs xs' : List Value} (h : w.ownsRow 0 e s v n xs) (h' : w.ownsRow 0 e' s' v' n' xs') (hne : e ≠ e') (k : Nat) (hk : v.ownBlock = some k) (hk' : v'.ownBlock = some k) : False := by
  rcases h.2 with ⟨rfl, _⟩ | ⟨g, cap, cur, rfl, _, hg, _⟩
  · simp [Value.ownBlock] at hk
  · rcases h'.2 with ⟨rfl, _⟩ | ⟨g', cap', cur', rfl, _, hg', _⟩
    · simp [Value.ownBlock] at hk'
    · simp [Value.ownBlock] at hk hk'
      subst hk; subst hk'
      rw [hg] at hg'
      simp at hg'
      exact hne hg'.2
/-- An operation begins. -/
theorem ZAt.wkBegin (h : ZAt own z w L P) {w0 w' : World} {i : Nat} {l : WLay} {t t' : PThread} {sp lk : Value} (hl : L.wks[i]? = some l) (ht : P.ts[i]? = some t) (hf : Fr (fun k => k = l.b) w w')
    (hA : At w' l.b (t'.cells i ⟨l.b, sp, .slice none 0 0, lk, .slice none 0 0, .slice none 0 0, l.lspans⟩) 114) (hw0 : w.heap.size ≤ w0.heap.size)
    (e1 : w'.ownsRow 0 138 2 sp t'.work.spans.length (t'.work.spans.flatMap pairCells)) (f1 : ∀ k, sp.ownBlock = some k → w0.heap.size ≤ k) (e2 : t'.work.made = [])
    (e3 : w'.ownsRow 0 109 2 lk t'.work.links.length (t'.work.links.flatMap linkCells)) (f3 : ∀ k, lk.ownBlock = some k → w0.heap.size ≤ k) (e4 : t'.work.noted = []) (e6 : t'.work.ans.spans = []) (e7 : t'.last.spans = t.last.spans) : ZGoes own z w L (P.setT i t') w' := by
  have hT := h.wk i l t hl ht
  have hF : FrT own z (fun t => t = .thread i ∨ ∃ k, t = .tr i k) w w' := FrT.one hf hT.tg (.inl rfl)
  have hn : ∀ tag, tag ≠ Tag.thread i → ∀ k, own k = ⟨z, tag⟩ → ¬ k = l.b := by
    rintro tag hne k hk rfl; rw [hT.tg] at hk; simp at hk; exact hne hk.symm
  have hE : Ext own (fun k => if sp.ownBlock = some k then ⟨z, .tr i 0⟩ else if lk.ownBlock = some k then ⟨z, .tr i 2⟩ else own k) w := by
    intro k hk
    show (if _ then _ else _) = _
    rw [if_neg (fun e => by have := f1 k e; omega), if_neg (fun e => by have := f3 k e; omega)]
  refine ⟨_, { L with wks := L.wks.set i ⟨l.b, sp, .slice none 0 0, lk, .slice none 0 0, .slice none 0 0, l.lspans⟩ }, h.wkSet hl rfl hF hE ⟨hA, (hE _ hT.at_.lt).trans hT.tg, ⟨e1, fun k hk => by show (if _ then _ else _) = _; rw [if_pos hk]⟩, ?_, ⟨e3, fun k hk => by show (if _ then _ else _) = _; rw [if_neg (fun e => rows_ne e1 e3 (by decide) k e hk), if_pos hk]⟩, ?_, ?_, ?_⟩, hE, hF.zone, rfl, rfl, ?_⟩
  · rw [e2]; exact Row.nil _ _ _ _ _ _
  · rw [e4]; exact Row.nil _ _ _ _ _ _
  · rw [e6]; exact ListsAt.none _ _ _
  · rw [e7]; exact hT.llists.fr hf hE (hn _ (by simp))
  · show (L.wks.set i _).map (·.b) = _
    rw [List.map_set]
    exact setL_same (by simp [hl])
theorem newWork_rest (kind key value : Int) (ps : List (Int × Int)) : (newWork kind key value ps).made = [] ∧ (newWork kind key value ps).noted = [] ∧ (newWork kind key value ps).ans.spans = [] := by
  unfold newWork
  simp only
  split
  · exact ⟨rfl, rfl, rfl⟩
  · split
    · exact ⟨rfl, rfl, rfl⟩
    · split <;> exact ⟨rfl, rfl, rfl⟩
theorem workV_one (k : PWork) (a b : Option Addr) (n m c d : Nat) : ∀ v ∈ workV k (.slice a n c) (.slice b m d), v.oneCell' = true := by
  simp [workV, Value.oneCell']
set_option maxHeartbeats 4000000 in
set_option maxRecDepth 100000 in
theorem ZBegin_calls (h : ZAt own z w L P) (i kind key value : Int) (sa : Option Addr) (sn sc : Nat) (spans : List (Int × Int)) (hsp : kind = 4 → sn = spans.length ∧ PairsAt w sa spans ∧ ∀ g, sa = some ⟨g, 0, none⟩ → (own g).z ≠ z) :
    Calls Tryz.prog 66 #[.pointer (some ⟨L.s, 0, none⟩), .int .i64 i, opVal kind key value (.slice sa sn sc)] w fun e w' => e = .returned (.int .i64 (P.begin i kind key value spans).2) ∧ ZGoes own z w L (P.begin i kind key value spans).1 w' := by
  have hF0 : Fr (fun _ => False) w (w.alloc (.cells #[.int .i64 kind, .int .i64 key, .int .i64 value, .slice sa sn sc] 82)) := (Fr.refl _ _).alloc _
  have H := (show Hid (ZAt own z _ L P) from h.calm hF0)
  have HO := (show Hid (At _ w.heap.size _ _) from At.new w [.int .i64 kind, .int .i64 key, .int .i64 value, .slice sa sn sc] 82)
  have HF0 := (show Hid (Fr (fun _ => False) w _) from hF0)
  have HSP := (show Hid (kind = 4 → _) from hsp)
  clear h hF0 hsp
  cases hI : isIn i 0 (P.ts.length - 1)
  · have hE : Hid (P.begin i kind key value spans = (P, 2)) := by show _ = _; simp [PSt.begin, hI]
    unfold opVal
    go_enter Tryz.func66, Tryz.ntmps66
    go_wp2_with fail
    refine (ZhasThread_calls H.out i).mono ?_
    rintro e w' ⟨rfl, rfl⟩
    rw [hI]
    go_wp2
    go_ret
    rw [hE.out]
    exact ⟨rfl, ZGoes.calm HF0.out (ZGoes.here ⟨H.out, Fr.refl _ _⟩)⟩
  · obtain ⟨h0, h1⟩ := isIn_iff.1 hI
    obtain ⟨j, rfl⟩ := Int.eq_ofNat_of_zero_le h0
    have hlt : j < P.ts.length := by omega
    have ht : P.ts[j]? = some P.ts[j] := List.getElem?_eq_getElem hlt
    generalize P.ts[j] = t at ht
    have hth : P.th j = t := by simp [PSt.th, ht]
    obtain ⟨l, tb, cap, hl, htv, hptr⟩ := H.out.wkPtr ht
    obtain ⟨ha, haz, hal, hs, hsz, hsl, n1, n2⟩ := H.out.view hl ht
    have hfew := H.out.few
    have HT := (show Hid (At _ l.b _ _) from (H.out.wk j l t hl ht).at_)
    have HL := (show Hid (L.wks[j]? = some l) from hl)
    have Ht := (show Hid (P.ts[j]? = some t) from ht)
    have hne : w.heap.size ≠ l.b := HO.out.ne HT.out (by decide)
    have hoc := HO.out.cell
    simp only [PThread.cells, PSt.head, htv] at ha hs
    clear hl ht h0 h1 hsz
    cases hb : t.busy
    · rw [hb] at ha
      by_cases hky : checkOp kind key spans = 0
      rotate_left
      · have hE : Hid (P.begin j kind key value spans = (P, checkOp kind key spans)) := by show _ = _; unfold PSt.begin; rw [hI, Int.toNat_natCast, hth, hb]; simp [hky]
        have hkn : (checkOp kind key spans == 0) = false := by simpa using hky
        unfold opVal
        go_enter Tryz.func66, Tryz.ntmps66
        go_wp2_with fail
        refine (ZhasThread_calls H.out j).mono ?_
        rintro e w' ⟨rfl, rfl⟩
        rw [hI]
        go_wp2_with fail
        refine (checkOp_calls kind key value sa sn sc spans _ (fun h4 => ⟨(HSP.out h4).1, (HSP.out h4).2.1.calm HF0.out⟩)).mono ?_
        rintro e w1 ⟨rfl, hF⟩
        have HF1 := (show Hid (Fr (fun _ => False) w w1) from HF0.out.trans hF)
        have H1 := (show Hid (ZAt own z w1 L P) from H.out.calm hF)
        clear hF ha hs hoc hptr haz
        go_wp2
        go_ret
        rw [hE.out]
        exact ⟨rfl, ZGoes.calm HF1.out (ZGoes.here ⟨H1.out, Fr.refl _ _⟩)⟩
      · have hE : Hid (P.begin j kind key value spans = (P.setT j { t with busy := true, work := newWork kind key value spans }, 0)) := by
          show _ = _; unfold PSt.begin; rw [hI, Int.toNat_natCast, hth, hb]; simp [hky]
        have HKY := (show Hid (checkOp kind key spans = 0) from hky)
        unfold opVal
        go_enter Tryz.func66, Tryz.ntmps66
        go_wp2_with fail
        refine (ZhasThread_calls H.out j).mono ?_
        rintro e w' ⟨rfl, rfl⟩
        rw [hI]
        go_wp2_with fail
        refine (checkOp_calls kind key value sa sn sc spans _ (fun h4 => ⟨(HSP.out h4).1, (HSP.out h4).2.1.calm HF0.out⟩)).mono ?_
        rintro e w1 ⟨rfl, hF⟩
        have HF1 := (show Hid (Fr (fun _ => False) w w1) from HF0.out.trans hF)
        have H1 := (show Hid (ZAt own z w1 L P) from H.out.calm hF)
        have HO1 := (show Hid (At w1 w.heap.size _ _) from hF.at HO.out (fun h => h))
        rw [HKY.out]
        clear hF ha hs hoc hptr haz HO HT H HF0 hky
        have HT1 := (show Hid (At w1 l.b _ _) from (H1.out.wk j l t HL.out Ht.out).at_)
        have ha := HT1.out.cell
        have haz := HT1.out.frozen
        have hoc := HO1.out.cell
        simp only [PThread.cells] at ha
        go_wp2_with fail
        have hP1 : kind = 4 → sn = spans.length ∧ PairsAt (w1.setCell ⟨l.b, 2, none⟩ (.bool true)) sa spans := fun h4 => ⟨(HSP.out h4).1, by
          intro q p hp
          obtain ⟨g, e, c0, c1⟩ := ((HSP.out h4).2.1.calm HF1.out) q p hp
          have hg : g ≠ l.b := by
            intro eg
            apply (HSP.out h4).2.2 g e
            rw [eg, (H1.out.wk j l t HL.out Ht.out).tg]
          have hF : Fr (fun k => k = l.b) w1 (w1.setCell ⟨l.b, 2, none⟩ (.bool true)) := (Fr.refl _ _).set1 _ _
          exact ⟨g, e, hF.keepCellS c0 hg, hF.keepCellS c1 hg⟩⟩
        refine (newWork_calls kind key value sa sn sc spans _ HKY.out hP1).mono ?_
        rintro e w2 ⟨sp, lk, rfl, hS, hL⟩
        obtain ⟨s1, s2, rfl⟩ := ownsShape hS.row
        obtain ⟨k1, k2, rfl⟩ := ownsShape hL.row
        have hA2 := hS.fr.at (HT1.out.set 2 (.bool true)) (fun h => h)
        have HA2 := (show Hid (At w2 l.b _ _) from hA2)
        have HF2 := (show Hid (Fr (fun k => k = l.b) w1 w2) from ((Fr.refl _ _).set1 _ _).trans (Fr.mono hS.fr (fun _ _ h => h.elim)))
        have HS2 := (show Hid (OwnSpans _ w2 _ _) from hS)
        have HL2 := (show Hid (OwnLinks _ w2 _ _) from hL)
        clear hS hL hA2 ha haz hoc HT1 HO1 hP1
        generalize hwc : workV (newWork kind key value spans) _ _ = vs
        have hvl : vs.length = 20 := by rw [← hwc]; rfl
        have hv1 : ∀ v ∈ vs, v.oneCell' = true := by rw [← hwc]; exact workV_one _ _ _ _ _ _ _
        have hws : ∀ w : World, (sizeOf 112).run Tryz.prog w = .ok vs.length w := by rw [hvl]; exact work_size
        go_wp2_with (refine wpList_storeAgg w2 rfl _ _ 112 rfl l.b 3 vs rfl rfl hws _ _ HA2.out (by simp [PThread.cells, hvl]) hv1 ?_)
        go_ret
        rw [hE.out]
        have hFb : Fr (fun k => k = l.b) w2 (w2.setCells l.b 3 vs) := Fr.setCells (S := fun k => k = l.b) rfl _ _ _ (Fr.refl _ _)
        have hN := newWork_rest kind key value spans
        refine ⟨rfl, ZGoes.calm HF1.out (H1.out.wkBegin HL.out Ht.out (t' := { t with busy := true, work := newWork kind key value spans }) (w0 := w1.setCell ⟨l.b, 2, none⟩ (.bool true)) (HF2.out.trans hFb) ?_ (by simp) (hFb.owns HS2.out.row (fun k hk e => HA2.out.ne_row HS2.out.row (by decide) (by rw [← e]; exact hk))) HS2.out.new hN.1 (hFb.owns HL2.out.row (fun k hk e => HA2.out.ne_row HL2.out.row (by decide) (by rw [← e]; exact hk))) HL2.out.new hN.2.1 hN.2.2 rfl)⟩
        have hX := At.setCells vs 3 w2 _ HA2.out
        rw [← hwc] at hX ⊢
        simp only [workV, setAll, PThread.cells, List.set_cons_zero, List.set_cons_succ] at hX
        simp only [PThread.cells]
        exact hX
    · rw [hb] at ha
      have hE : Hid (P.begin j kind key value spans = (P, 3)) := by show _ = _; simp [PSt.begin, hI, hth, hb]
      unfold opVal
      go_enter Tryz.func66, Tryz.ntmps66
      go_wp2_with fail
      refine (ZhasThread_calls H.out j).mono ?_
      rintro e w' ⟨rfl, rfl⟩
      rw [hI]
      go_wp2
      go_ret
      rw [hE.out]
      exact ⟨rfl, ZGoes.calm HF0.out (ZGoes.here ⟨H.out, Fr.refl _ _⟩)⟩
end
end Go.Proofs.YtfccelbmacjifaaGreat

set_option linter.unusedSimpArgs false
namespace Go.Proofs.YtfccelbmacjifaaGreat
open Go.RowKit
/-- Lists of lists, wherever they lie. -/
def ReadLists (w : World) (a : Option Addr) (ll : List (List (Int × Int))) : Prop := ∀ (i : Nat) l, ll[i]? = some l → ∃ g b c, a = some ⟨g, 0, none⟩ ∧ w.cell? ⟨g, i, none⟩ = some (.slice b l.length c) ∧ PairsAt w b l
theorem ReadLists.calm {w w' : World} {a : Option Addr} {ll : List (List (Int × Int))} (h : ReadLists w a ll) (hf : Fr (fun _ => False) w w') : ReadLists w' a ll := by
  intro i l hl
  obtain ⟨g, b, c, e, c0, c1⟩ := h i l hl
  exact ⟨g, b, c, e, hf.keepCell c0, c1.calm hf⟩
theorem ListsAt.read {own : Own} {z : Nat} {w : World} {a : Option Addr} {n c : Nat} {ll : List (List (Int × Int))} (h : ListsAt own z w (.slice a n c) ll) : n = ll.length ∧ ReadLists w a ll := by
  obtain ⟨ins, h1, h2, h3⟩ := h.top
  obtain ⟨a', c', hv⟩ := ownsShape h2.row
  obtain ⟨rfl, rfl, rfl⟩ : a = a' ∧ n = ll.length ∧ c = c' := by simpa using hv
  refine ⟨rfl, ?_⟩
  intro i l hl
  have hi : i < ll.length := (List.getElem?_eq_some_iff.1 hl).1
  have hu : ins[i]? = some ins[i] := List.getElem?_eq_getElem (by omega)
  generalize ins[i] = u at hu
  have hr := h3 i u l hu hl
  obtain ⟨b, d, rfl⟩ := ownsShape hr.row
  obtain ⟨g, cp, hg, _⟩ := ownsRow_shape h2.row (by omega)
  have ho := h2.row
  rw [hg] at ho
  simp at hg
  exact ⟨g, b, d, hg.1, ownsRow_cell ho hu, PairsAt.ofRow hr⟩
theorem OwnLists.below {w0 w1 w : World} {v : Value} {ll : List (List (Int × Int))} (h : OwnLists w1 w v ll) (hf : Fr (fun _ => False) w0 w1) : OwnLists w0 w v ll := by
  obtain ⟨ins, h1, h2, h3⟩ := h.top
  exact ⟨h.nil, ⟨ins, h1, h2, fun i u l a b => ⟨(h3 i u l a b).1, fun k hk => Nat.le_trans hf.size ((h3 i u l a b).2 k hk)⟩⟩, fun k hk => Nat.le_trans hf.size (h.new k hk), hf.trans h.fr⟩
set_option maxHeartbeats 4000000 in
set_option maxRecDepth 100000 in
theorem copyLists_calls (w : World) (a : Option Addr) (c : Nat) (ll : List (List (Int × Int))) (hl : ll.length ≤ 2 ^ 39) (hn : ∀ l ∈ ll, l.length ≤ 2 ^ 39) (hR : ReadLists w a ll) :
    Calls Tryz.prog 96 #[.slice a ll.length c] w fun e w' => ∃ va vn vc, e = .returned (.slice va vn vc) ∧ OwnLists w w' (.slice va vn vc) ll := by
  obtain ⟨iP, hiP, hzP, hsP, hbP⟩ := info_parts Tryz.infoPr
  obtain ⟨iL, hiL, hzL, hsL, hbL⟩ := info_parts Tryz.infoPs
  have HR := (show Hid (ReadLists w a ll) from hR)
  have HNn := (show Hid (∀ l ∈ ll, l.length ≤ 2 ^ 39) from hn)
  clear hR hn
  go_enter Tryz.func96, Tryz.ntmps96
  go_wp2
  go_loopw [3, 9] (fun f i wr => ∃ k : Nat, k ≤ ll.length ∧ i = .int .i64 k ∧ ∃ va vn vc, f = .slice va vn vc ∧ Hid (OwnLists w wr (.slice va vn vc) (ll.take k))) (fun _ i _ => ll.length - (intOf i).toNat)
  case atStart => exact ⟨0, Nat.zero_le _, rfl, none, 0, 0, rfl, fun _ => rfl, ⟨[], rfl, ⟨by simp, .inl ⟨rfl, rfl⟩⟩, by intro i u l hu; simp at hu⟩, by intro k hk; simp [Value.ownBlock] at hk, Fr.refl _ _⟩
  case round =>
    obtain ⟨k, hk, rfl, va, vn, vc, rfl, HO⟩ := hrel
    by_cases hlt : k < ll.length
    · have hx : Hid (ll[k]? = some ll[k]) := List.getElem?_eq_getElem hlt
      generalize ll[k] = x at hx
      have hxl : x.length ≤ 2 ^ 39 := HNn.out x (List.mem_of_getElem? hx.out)
      obtain ⟨g, b, d, rfl, c0, hP⟩ := (HR.out.calm HO.out.fr) k x hx.out
      have HP := (show Hid (PairsAt wr b x) from hP)
      have HN : Hid (ll.take (k + 1) = ll.take k ++ [x]) := by show _ = _; rw [List.take_add_one, hx.out]; rfl
      have HC := (show Hid (wr.cell? ⟨g, k, none⟩ = some (.slice b x.length d)) from c0)
      clear hP
      obtain ⟨wo, hwo⟩ : ∃ wo, wo = wr := ⟨_, rfl⟩
      subst hwo
      go_wp2
      go_loopw [5, 17] (fun v j wi => ∃ q : Nat, q ≤ x.length ∧ j = .int .i64 q ∧ Hid (OwnPairs wo wi v (x.take q))) (fun _ j _ => x.length - (intOf j).toNat)
      case atStart => exact ⟨0, Nat.zero_le _, rfl, ⟨⟨by simp, .inl ⟨rfl, rfl⟩⟩, by intro k hk; simp [Value.ownBlock] at hk, Fr.refl _ _⟩⟩
      case round =>
        obtain ⟨q, hq, rfl, HQ⟩ := hrel
        by_cases hqt : q < x.length
        · have hy : Hid (x[q]? = some x[q]) := List.getElem?_eq_getElem hqt
          generalize x[q] = y at hy
          obtain ⟨g2, rfl, d0, d1⟩ := (HP.out.calm HQ.out.fr) q y hy.out
          have c0 := HQ.out.fr.keepCell HC.out
          have HM : Hid (x.take (q + 1) = x.take q ++ [y]) := by show _ = _; rw [List.take_add_one, hy.out]; rfl
          have hql : (x.take q).length = q := by rw [List.length_take]; omega
          have hrow := HQ.out.row
          rw [hql] at hrow
          have Hrow := (show Hid (World.ownsRow _ 0 _ _ _ _ _) from hrow)
          clear hrow
          go_wp2_with (at_builtin; refine wpList_push _ rfl _ _ 58 rfl 0 147 iP _ 2 16 Tryz.underlying58 hiP hzP hsP hbP rfl (by decide) _ _ _ rfl (ownsRow_alloc Hrow.out _) wr.heap.size [.int .i64 y.1, .int .i64 y.2] rfl rfl 147 (At.newAt (by simp) _ _) (by simp [Value.oneCell']) (by unfold maxLen; omega) (by omega) (by simp) ?_)
          intro g' cap w3 hown hgr hge
          have HO3 : Hid (OwnPairs wo w3 (.slice (some ⟨g', 0, none⟩) (q + 1) cap) (x.take (q + 1))) := by
            show OwnPairs _ _ _ _
            rw [HM.out]
            refine ⟨by rw [List.length_append, hql]; simpa [pairCells] using hown, ?_, Fr.grown (HQ.out.fr.alloc _) hgr (fun k hk => .inr (HQ.out.new k hk))⟩
            intro j hj
            simp [Value.ownBlock] at hj
            subst hj
            rcases hge with h | h
            · exact HQ.out.new _ h
            · have := HQ.out.fr.size; first | omega | (simp at h; omega)
          clear hown hgr hge HQ
          go_wp2
          go_roundw
          case rel => exact ⟨q + 1, by omega, by go_num, HO3⟩
          case measure => simp [intOf]; omega
        · have hke : q = x.length := by omega
          subst hke
          rw [List.take_length] at HQ
          have hkl : (ll.take k).length = k := by rw [List.length_take]; omega
          obtain ⟨ua, uc, hu⟩ := ownsShape HQ.out.row
          subst hu
          have HO1 := (show Hid (OwnLists w wr _ _) from HO.out.calm HQ.out.fr)
          have HSW := (show Hid (w.heap.size ≤ wo.heap.size) from HO.out.fr.size)
          obtain ⟨ins, hi1, hi2, hi3⟩ := HO1.out.top
          have HT := (show Hid (wr.ownsRow 0 58 1 (.slice va vn vc) (ll.take k).length ins) from hi2)
          have HI := (show Hid (ins.length = (ll.take k).length ∧ _) from ⟨hi1, hi3⟩)
          clear hi1 hi2 hi3 c0 HO
          go_wp2_with (at_builtin; refine wpList_push _ rfl _ _ 61 rfl 0 58 iL _ 1 24 Tryz.underlying61 hiL hzL hsL hbL rfl (by decide) _ _ _ rfl (ownsRow_alloc HT.out _) wr.heap.size [.slice ua x.length uc] rfl rfl 58 (At.newAt (by simp) _ _) (by simp [Value.oneCell']) (by unfold maxLen; omega) (by omega) (by simp) ?_)
          intro g' cap w3 hown hgr hge
          have HO3 := (show Hid (OwnLists w w3 (.slice (some ⟨g', 0, none⟩) ((ll.take k).length + 1) cap) (ll.take k ++ [x])) from HO1.out.push HI.out.1 HT.out HI.out.2 HQ.out.row (fun q hq => Nat.le_trans HSW.out (HQ.out.new q hq)) rfl (by rw [hkl]; exact hown) hgr (by rcases hge with h | h; exact .inl h; exact .inr (by simpa using h)))
          rw [hkl] at HO3
          clear hown hgr hge HO1 HT HI
          go_wp2
          go_roundw
          case rel => exact ⟨k + 1, by omega, by go_num, some ⟨g', 0, none⟩, _, cap, rfl, by show OwnLists _ _ _ _; rw [HN.out]; exact HO3.out⟩
          case measure => simp [intOf]; omega
    · have hke : k = ll.length := by omega
      subst hke
      rw [List.take_length] at HO
      go_wp2
      go_ret
      exact ⟨va, vn, vc, rfl, HO.out⟩
section
variable {own : Own} {z : Nat} {w : World} {L : ZLay} {P : PSt}
def PSt.answer (P : PSt) (i : Int) : BAns × Int :=
  if isIn i 0 (P.ts.length - 1) then (if (P.th i.toNat).hasEnded then ((P.th i.toNat).last, 0) else ({}, 4)) else ({}, 2)

set_option maxHeartbeats 2000000 in
set_option maxRecDepth 100000 in
theorem ZAnswer_calls (h : ZAt own z w L P) (i : Int) (hn : (P.answer i).1.spans.length ≤ 2 ^ 39 ∧ ∀ l ∈ (P.answer i).1.spans, l.length ≤ 2 ^ 39) :
    Calls Tryz.prog 70 #[.pointer (some ⟨L.s, 0, none⟩), .int .i64 i] w fun e w' => ∃ va vn vc, e = .returned (.tuple #[ansV (P.answer i).1 (.slice va vn vc), .int .i64 (P.answer i).2]) ∧ OwnLists w w' (.slice va vn vc) (P.answer i).1.spans := by
  have hF0 : Fr (fun _ => False) w (w.alloc (.cells #[.int .i64 0, .bool false, .int .i64 0, .int .i64 0, .slice none 0 0] 93)) := (Fr.refl _ _).alloc _
  have H := (show Hid (ZAt own z _ L P) from h.calm hF0)
  have HF0 := (show Hid (Fr (fun _ => False) w _) from hF0)
  have hsl0 := h.hd.lt
  have H00 := (show Hid (ZAt own z w L P) from h)
  clear h hF0
  cases hI : isIn i 0 (P.ts.length - 1)
  · have hE : Hid (P.answer i = ({}, 2)) := by show _ = _; simp [PSt.answer, hI]
    rw [hE.out]
    go_enter Tryz.func70, Tryz.ntmps70
    go_wp2_with fail
    refine (ZhasThread_calls H.out i).mono ?_
    rintro e w' ⟨rfl, rfl⟩
    rw [hI]
    go_wp2
    exact bodyPost_ret (v := .tuple #[ansV {} (.slice none 0 0), .int .i64 2]) (by simp [results, Tryz.results70, go_sem, ansV]) rfl ⟨none, 0, 0, rfl, fun _ => rfl, ⟨[], rfl, ⟨by simp, .inl ⟨rfl, rfl⟩⟩, by intro i u l hu; simp at hu⟩, by intro k hk; simp [Value.ownBlock] at hk, (Fr.refl _ _).alloc _⟩
  · obtain ⟨h0, h1⟩ := isIn_iff.1 hI
    obtain ⟨j, rfl⟩ := Int.eq_ofNat_of_zero_le h0
    have hlt : j < P.ts.length := by omega
    have ht : P.ts[j]? = some P.ts[j] := List.getElem?_eq_getElem hlt
    generalize P.ts[j] = t at ht
    have hth : P.th j = t := by simp [PSt.th, ht]
    obtain ⟨l, tb, cap, hl, htv, hptr⟩ := H.out.wkPtr ht
    obtain ⟨ha, haz, hal, hs, hsz, hsl, n1, n2⟩ := H.out.view hl ht
    have hfew := H.out.few
    have hal0 := (H00.out.wk j l t hl ht).at_.lt
    have hla := (H.out.wk j l t hl ht).llists
    simp only [PThread.cells, PSt.head, htv] at ha hs
    clear hl ht h0 h1 hsz haz
    cases hb : t.hasEnded
    · have hE : Hid (P.answer j = ({}, 4)) := by show _ = _; unfold PSt.answer; rw [hI, Int.toNat_natCast, hth, hb]; simp
      rw [hE.out]
      rw [hb] at ha
      clear hla
      go_enter Tryz.func70, Tryz.ntmps70
      go_wp2_with fail
      refine (ZhasThread_calls H.out j).mono ?_
      rintro e w' ⟨rfl, rfl⟩
      rw [hI]
      go_wp2
      exact bodyPost_ret (v := .tuple #[ansV {} (.slice none 0 0), .int .i64 4]) (by simp [results, Tryz.results70, go_sem, ansV]) rfl ⟨none, 0, 0, rfl, fun _ => rfl, ⟨[], rfl, ⟨by simp, .inl ⟨rfl, rfl⟩⟩, by intro i u l hu; simp at hu⟩, by intro k hk; simp [Value.ownBlock] at hk, (Fr.refl _ _).alloc _⟩
    · have hE : Hid (P.answer j = (t.last, 0)) := by show _ = _; unfold PSt.answer; rw [hI, Int.toNat_natCast, hth, hb]; simp
      rw [hE.out] at hn ⊢
      obtain ⟨ins, q1, q2, q3⟩ := hla.top
      obtain ⟨xa, xc, hlv⟩ := ownsShape q2.row
      rw [hlv] at hla
      have HRL := (show Hid (ReadLists _ xa t.last.spans) from hla.read.2)
      have HNn := (show Hid (_ ∧ _) from hn)
      rw [hb, hlv] at ha
      clear hla q1 q2 q3 hn
      go_enter Tryz.func70, Tryz.ntmps70
      go_wp2_with fail
      refine (ZhasThread_calls H.out j).mono ?_
      rintro e w' ⟨rfl, rfl⟩
      rw [hI]
      go_wp2_with fail
      generalize hw1 : World.alloc (World.alloc w _) _ = w1
      have hF1 : Fr (fun _ => False) (w.alloc (.cells #[.int .i64 0, .bool false, .int .i64 0, .int .i64 0, .slice none 0 0] 93)) w1 := by subst hw1; exact (Fr.refl _ _).alloc _
      have hX1 : At w1 (w.heap.size + 1) [.int .i64 t.last.err, .bool t.last.did, .int .i64 t.last.value, .int .i64 t.last.stamp, .slice xa t.last.spans.length xc] 93 := by subst hw1; exact At.newAt (by simp) _ _
      have hY1 : At w1 w.heap.size [.int .i64 0, .bool false, .int .i64 0, .int .i64 0, .slice none 0 0] 93 := by subst hw1; exact (At.new w [.int .i64 0, .bool false, .int .i64 0, .int .i64 0, .slice none 0 0] 93).alloc _
      clear hw1
      refine (copyLists_calls w1 xa xc t.last.spans HNn.out.1 HNn.out.2 (HRL.out.calm hF1)).mono ?_
      rintro e w2 ⟨va, vn, vc, rfl, hO⟩
      have HX := (show Hid (At w2 (w.heap.size + 1) _ _) from hO.fr.at hX1 (fun h => h))
      have HY := (show Hid (At w2 w.heap.size _ _) from hO.fr.at hY1 (fun h => h))
      have HFF := (show Hid (Fr (fun _ => False) w w1) from HF0.out.trans hF1)
      have HO := (show Hid (OwnLists w1 w2 _ _) from hO)
      clear hO hX1 hY1 hF1 ha hs
      have hxc := HX.out.cell
      have hxz := HX.out.frozen
      have hyc := HY.out.cell
      have hyz := HY.out.frozen
      have hO0 := HO.out.below HFF.out
      have hO1 := hO0.setOther HX.out (by decide) (by decide) (by omega) 4 (.slice va vn vc)
      have hB := HY.out.setOther ⟨w.heap.size + 1, 4, none⟩ (by show w.heap.size ≠ w.heap.size + 1; omega) (.slice va vn vc)
      have hA0 := hB.set 0 (.int .i64 t.last.err)
      have hA1 := hA0.set 1 (.bool t.last.did)
      have hA2 := hA1.set 2 (.int .i64 t.last.value)
      have hA3 := hA2.set 3 (.int .i64 t.last.stamp)
      have f0 := (hA3.set 4 (.slice va vn vc)).cell
      have HZ := (show Hid (OwnLists w _ _ _) from ((((hO1.setOther hB (by decide) (by decide) (Nat.le_refl _) 0 (.int .i64 t.last.err)).setOther hA0 (by decide) (by decide) (Nat.le_refl _) 1 (.bool t.last.did)).setOther hA1 (by decide) (by decide) (Nat.le_refl _) 2 (.int .i64 t.last.value)).setOther hA2 (by decide) (by decide) (Nat.le_refl _) 3 (.int .i64 t.last.stamp)).setOther hA3 (by decide) (by decide) (Nat.le_refl _) 4 (.slice va vn vc))
      clear hO0 hO1 hB hA0 hA1 hA2 hA3
      go_wp2
      exact bodyPost_ret (v := .tuple #[ansV t.last (.slice va vn vc), .int .i64 0]) (by simp [results, Tryz.results70, go_sem, ansV, f0]) rfl ⟨va, vn, vc, rfl, HZ.out⟩

set_option maxHeartbeats 400000 in
theorem ZRoom_calls (h : ZAt own z w L P) :
    Calls Tryz.prog 77 #[.pointer (some ⟨L.s, 0, none⟩)] w fun e w' => e = .returned (.tuple #[.int .i64 P.mem.room.1, .int .i64 P.mem.room.2]) ∧ w' = w := by
  have H := (show Hid (ZAt own z w L P) from h)
  have hc := h.hd.cell
  simp only [PSt.head] at hc
  clear h
  go_enter Tryz.func77, Tryz.ntmps77
  go_wp2_with fail
  refine (MRoom_calls H.out.mem).mono ?_
  rintro e w' ⟨rfl, rfl⟩
  go_wp2
  go_ret2
  exact ⟨rfl, rfl⟩

end
end Go.Proofs.YtfccelbmacjifaaGreat

namespace Go.Proofs.YtfccelbmacjifaaGreat
open Go.RowKit
/-- A new store. -/
def freshP (k t n e l : Int) : PSt := { kind := k, limit := l, clock := 0, mem := freshMem n.toNat e.toNat, ts := List.replicate t.toNat PThread.zero, sweep := PSweep.zero }
def ownWk (own : Own) (z : Nat) : List Nat → Nat → Own
  | [], _ => own
  | b :: r, i => (ownWk own z r (i + 1)).put b z (.thread i)
theorem ownWk_out (own : Own) (z : Nat) : ∀ (l : List Nat) (i k : Nat), k ∉ l → ownWk own z l i k = own k
  | [], _, _, _ => rfl
  | b :: r, i, k, h => by
    simp only [List.mem_cons, not_or] at h
    rw [ownWk, Own.put_ne _ _ _ h.1, ownWk_out own z r (i + 1) k h.2]
theorem ownWk_in (own : Own) (z : Nat) : ∀ (l : List Nat) (i j b : Nat), l.Nodup → l[j]? = some b → ownWk own z l i b = ⟨z, .thread (i + j)⟩
  | [], _, _, _, _, h => by simp at h
  | c :: r, i, 0, b, hn, h => by simp at h; subst h; rw [ownWk, Own.put_same]; rfl
  | c :: r, i, j + 1, b, hn, h => by
    simp only [List.getElem?_cons_succ] at h
    rw [List.nodup_cons] at hn
    have hne : b ≠ c := by rintro rfl; exact hn.1 (List.mem_of_getElem? h)
    rw [ownWk, Own.put_ne _ _ _ hne, ownWk_in own z r (i + 1) j b hn.2 h]
    congr 2; omega
def blankWk (b : Nat) : WLay := ⟨b, .slice none 0 0, .slice none 0 0, .slice none 0 0, .slice none 0 0, .slice none 0 0, .slice none 0 0⟩

/-- A store that has just been made, with owners for its blocks. -/
theorem ZAt.ofNew {own : Own} {z : Nat} {w w' : World} {L : XLay} {k t n e l : Int} (h : XAt w' L (freshX k t n e l)) (hnew : ∀ b, L.own b → w.heap.size ≤ b) (ht8 : t ≤ 8) :
    ∃ own' L', ZAt own' z w' L' (freshP k t n e l) ∧ Ext own own' w ∧ L'.s = L.s := by
  have n1 : L.s ≠ L.l.m := h.hd.ne h.mem.hd (by decide)
  have n2 : L.l.nb ≠ L.s := by have := h.hd.ne_row h.mem.nodes (by decide); simpa [Value.ownBlock] using this
  have n3 : L.l.eb ≠ L.s := by have := h.hd.ne_row h.mem.ents (by decide); simpa [Value.ownBlock] using this
  have n4 : L.tb ≠ L.s := by have := h.hd.ne_row h.thr (by decide); simpa [Value.ownBlock] using this
  have n5 : L.l.nb ≠ L.l.m := by have := h.mem.hd.ne_row h.mem.nodes (by decide); simpa [Value.ownBlock] using this
  have n6 : L.l.eb ≠ L.l.m := by have := h.mem.hd.ne_row h.mem.ents (by decide); simpa [Value.ownBlock] using this
  have n7 : L.tb ≠ L.l.m := by have := h.mem.hd.ne_row h.thr (by decide); simpa [Value.ownBlock] using this
  have n8 : L.l.nb ≠ L.l.eb := by have := ownsRow_ne h.mem.nodes h.mem.ents (by decide); simpa [Value.ownBlock] using this
  have n9 : L.tb ≠ L.l.nb := by have := ownsRow_ne h.thr h.mem.nodes (by decide); simpa [Value.ownBlock] using this
  have n10 : L.tb ≠ L.l.eb := by have := ownsRow_ne h.thr h.mem.ents (by decide); simpa [Value.ownBlock] using this
  have hlen : (freshX k t n e l).ts.length = t.toNat := by simp [freshX, freshTs_len]
  have hwt : ∀ (i : Nat) b, L.wks[i]? = some b → At w' b (VWorker.new i).cells 114 := by
    intro i b hb
    have hi : i < t.toNat := by
      have := (List.getElem?_eq_some_iff.1 hb).1
      rw [h.len, hlen] at this; exact this
    exact h.wk i b _ hb (by simp [freshX, freshTs, hi])
  have hwk : ∀ b, b ∈ L.wks → b ≠ L.s ∧ b ≠ L.l.m ∧ b ≠ L.l.nb ∧ b ≠ L.l.eb ∧ b ≠ L.tb := by
    intro b hb
    obtain ⟨i, hi⟩ := List.getElem?_of_mem hb
    have hA := hwt i b hi
    refine ⟨hA.ne h.hd (by decide), hA.ne h.mem.hd (by decide), ?_, ?_, ?_⟩
    · have := hA.ne_row h.mem.nodes (by decide); simp [Value.ownBlock] at this; exact fun e => this e.symm
    · have := hA.ne_row h.mem.ents (by decide); simp [Value.ownBlock] at this; exact fun e => this e.symm
    · have := hA.ne_row h.thr (by decide); simp [Value.ownBlock] at this; exact fun e => this e.symm
  let own' : Own := (((((ownWk own z L.wks 0).put L.tb z .thl).put L.l.eb z (.oth 2)).put L.l.nb z (.oth 1)).put L.l.m z (.oth 0)).put L.s z .store
  have o1 : own' L.s = ⟨z, .store⟩ := Own.put_same _ _ _ _
  have o2 : own' L.l.m = ⟨z, .oth 0⟩ := by show (Own.put _ _ _ _) _ = _; rw [Own.put_ne _ _ _ n1.symm, Own.put_same]
  have o3 : own' L.l.nb = ⟨z, .oth 1⟩ := by show (Own.put _ _ _ _) _ = _; rw [Own.put_ne _ _ _ n2, Own.put_ne _ _ _ n5, Own.put_same]
  have o4 : own' L.l.eb = ⟨z, .oth 2⟩ := by show (Own.put _ _ _ _) _ = _; rw [Own.put_ne _ _ _ n3, Own.put_ne _ _ _ n6, Own.put_ne _ _ _ n8.symm, Own.put_same]
  have o5 : own' L.tb = ⟨z, .thl⟩ := by show (Own.put _ _ _ _) _ = _; rw [Own.put_ne _ _ _ n4, Own.put_ne _ _ _ n7, Own.put_ne _ _ _ n9, Own.put_ne _ _ _ n10, Own.put_same]
  have o6 : ∀ (i : Nat) b, L.wks[i]? = some b → own' b = ⟨z, .thread i⟩ := by
    intro i b hb
    obtain ⟨h1, h2, h3, h4, h5⟩ := hwk b (List.mem_of_getElem? hb)
    show (Own.put _ _ _ _) _ = _
    rw [Own.put_ne _ _ _ h1, Own.put_ne _ _ _ h2, Own.put_ne _ _ _ h3, Own.put_ne _ _ _ h4, Own.put_ne _ _ _ h5, ownWk_in own z L.wks 0 i b h.apart hb, Nat.zero_add]
  have hE : Ext own own' w := by
    intro j hj
    have hno : ¬ L.own j := fun hh => by have := hnew j hh; omega
    simp only [XLay.own, not_or] at hno
    obtain ⟨h1, h2, h3, h4, h5, h6⟩ := hno
    show (Own.put _ _ _ _) _ = _
    rw [Own.put_ne _ _ _ h1, Own.put_ne _ _ _ h2, Own.put_ne _ _ _ h3, Own.put_ne _ _ _ h4, Own.put_ne _ _ _ h5, ownWk_out own z L.wks 0 j h6]
  have hpl : (freshP k t n e l).ts.length = t.toNat := by simp [freshP]
  refine ⟨own', ⟨L.s, L.l, .slice (some ⟨L.tb, 0, none⟩) t.toNat L.tcap, L.wks.map blankWk, .slice none 0 0⟩, ⟨?_, o1, h.mem, o2, o3, o4, ?_, ?_, ?_, Row.nil _ _ _ _ _ _, ?_⟩, hE, rfl⟩
  · have := h.hd
    rw [hlen] at this
    exact this
  · refine ⟨?_, ?_⟩
    · have := h.thr
      rw [hlen] at this
      rw [hpl]
      have e : wptrs (L.wks.map blankWk) = ptrs L.wks := by unfold wptrs ptrs; rw [List.map_map]; rfl
      rw [e]; exact this
    · intro j hj; simp [Value.ownBlock] at hj; subst hj; exact o5
  · rw [List.length_map, h.len, hlen, hpl]
  · intro i lw tw hl ht
    rw [List.getElem?_map] at hl
    cases hb : L.wks[i]? with
    | none => rw [hb] at hl; simp at hl
    | some b =>
      rw [hb] at hl; simp at hl; subst hl
      have htw : tw = PThread.zero := by
        have : tw ∈ List.replicate t.toNat PThread.zero := List.mem_of_getElem? ht
        exact (List.mem_replicate.1 this).2
      subst htw
      exact ⟨hwt i b hb, o6 i b hb, Row.nil _ _ _ _ _ _, Row.nil _ _ _ _ _ _, Row.nil _ _ _ _ _ _, Row.nil _ _ _ _ _ _, ListsAt.none _ _ _, ListsAt.none _ _ _⟩
  · rw [hpl]; omega
end Go.Proofs.YtfccelbmacjifaaGreat

set_option linter.unusedSimpArgs false
namespace Go.Proofs.YtfccelbmacjifaaGreat
open Go.RowKit
def pv (b : Nat) : Value := .pointer (some ⟨b, 0, none⟩)
section
variable {own : Own} {z : Nat} {w : World} {L : ZLay} {P : PSt} {N : Nat}
theorem ZStep_fit (h : ZAt own z w L P) (hf : Fit N P) (hN : N ≤ 2 ^ 39) {i : Nat} {t : PThread} (ht : P.ts[i]? = some t) (hb : t.busy = true) :
    Calls Tryz.prog 68 #[.pointer (some ⟨L.s, 0, none⟩), .int .i64 i] w fun e w' => e = .returned (.tuple #[.int .i64 (P.step i t).2, .int .i64 0]) ∧ ZGoes own z w L (P.step i t).1 w' := by
  have hT := (hf.th i t ht).1 hb
  have hc := hf.clk
  by_cases hk : t.work.kind = 1 ∨ t.work.kind = 2
  · exact ZStep_busy h ht hb ⟨hf.kind, hT.made.1, hT.locks, hc.1, hf.lim⟩ hT.nx hk
  · have hk' : t.work.kind = 3 ∨ t.work.kind = 4 := by have := hT.kd; omega
    refine ZStep_read h hf.kind ht hb hT.nx hk' (fun h4 hn => ⟨hT.links h4 ?_, hT.spans h4, Nat.le_trans hT.noted hN⟩)
    have := hT.rd hk'
    omega
theorem Fit.answer (hf : Fit N P) (i : Int) : SmallAns (P.answer i).1 := by
  unfold PSt.answer
  split
  · next hI =>
    have hb := isIn_iff.1 hI
    split
    · obtain ⟨j, rfl⟩ := Int.eq_ofNat_of_zero_le hb.1
      have hj : j < P.ts.length := by omega
      exact (hf.th j _ (show P.ts[j]? = some (P.th j) by simp [PSt.th, List.getElem?_eq_getElem hj])).2
    · exact SmallAns.zero rfl
  · exact SmallAns.zero rfl
theorem ZAnswer_fit (h : ZAt own z w L P) (hf : Fit N P) (i : Int) :
    Calls Tryz.prog 70 #[.pointer (some ⟨L.s, 0, none⟩), .int .i64 i] w fun e w' => ∃ va vn vc, e = .returned (.tuple #[ansV (P.answer i).1 (.slice va vn vc), .int .i64 (P.answer i).2]) ∧ OwnLists w w' (.slice va vn vc) (P.answer i).1.spans := by
  have hs := hf.answer i
  exact ZAnswer_calls h i ⟨by have := hs.1; omega, fun l hl => by have := hs.2 l hl; omega⟩
theorem ZSweep_fit (h : ZAt own z w L P) (hf : Fit N P) :
    Calls Tryz.prog 73 #[.pointer (some ⟨L.s, 0, none⟩)] w fun e w' => e = .returned (.int .i64 P.doSweep.2) ∧ ZGoes own z w L P.doSweep.1 w' :=
  ZSweep_calls h (by have := hf.swp; have := hf.thr; omega) (by have := hf.swp; omega)
end
/-! ### Answers that are the same -/
end Go.Proofs.YtfccelbmacjifaaGreat

set_option linter.unusedSimpArgs false
namespace Go.Proofs.YtfccelbmacjifaaGreat
open Go.RowKit
/-! ### The player of outright.go: its store in zone z, its own lists in zone z + 1 -/
structure OpV where
  kind : Int
  key : Int
  value : Int
  spans : List (Int × Int)
  sv : Value
def OpV.cells (o : OpV) : List Value := [.int .i64 o.kind, .int .i64 o.key, .int .i64 o.value, o.sv]
structure DeedV where
  op : OpV
  a : BAns
  av : Value
  frm : Int
def DeedV.cells (d : DeedV) : List Value := [.int .i64 d.op.kind, .int .i64 d.op.key, .int .i64 d.op.value, d.op.sv, .int .i64 d.a.err, .bool d.a.did, .int .i64 d.a.value, .int .i64 d.a.stamp, d.av, .int .i64 d.frm]
theorem opv_len (o : OpV) : o.cells.length = 4 := rfl
theorem deed_len (d : DeedV) : d.cells.length = 10 := rfl
def boolCells (l : List Bool) : List Value := l.map .bool
def OpOk (own : Own) (z : Nat) (w : World) (o : OpV) : Prop := Row own z w (.oth 5) 138 2 o.sv o.spans.length (o.spans.flatMap pairCells)
def DeedOk (own : Own) (z : Nat) (w : World) (d : DeedV) : Prop := OpOk own z w d.op ∧ ListsAt own z w d.av d.a.spans ∧ SmallAns d.a
structure PlD where
  L : ZLay
  P : PSt
  N : Nat
  k : Int
  t : Int
  n : Int
  e : Int
  l : Int
  bv : Value
  ov : Value
  fv : Value
  dv : Value
  bs : List Bool
  ops : List OpV
  frm : List Int
  deeds : List DeedV
  puts : Int
  takes : Int
def PlD.ok (D : PlD) : Prop := D.bs = D.P.ts.map (·.busy)
def PlD.cells (D : PlD) : List Value :=
  [pv D.L.s, .int .i64 D.k, .int .i64 D.t, .int .i64 D.n, .int .i64 D.e, .int .i64 D.l, D.bv, D.ov, D.fv, D.dv, .int .i64 D.puts, .int .i64 D.takes]
structure PlAt (own : Own) (z : Nat) (w : World) (pb : Nat) (D : PlD) : Prop where
  at_ : At w pb D.cells 80
  tg : own pb = ⟨z + 1, .store⟩
  st : ZAt own z w D.L D.P
  fit : Fit D.N D.P
  thr : D.t = D.P.ts.length
  busy : Row own (z + 1) w (.oth 1) 4 1 D.bv D.P.ts.length (boolCells D.bs)
  bl : D.bs.length = D.P.ts.length
  ops : Row own (z + 1) w (.oth 2) 82 4 D.ov D.P.ts.length (D.ops.flatMap OpV.cells)
  ol : D.ops.length = D.P.ts.length
  frm : Row own (z + 1) w (.oth 3) 3 1 D.fv D.P.ts.length (intCells D.frm)
  fl : D.frm.length = D.P.ts.length
  deeds : Row own (z + 1) w (.oth 4) 97 10 D.dv D.deeds.length (D.deeds.flatMap DeedV.cells)
  opk : ∀ o ∈ D.ops, OpOk own (z + 1) w o
  dok : ∀ d ∈ D.deeds, DeedOk own (z + 1) w d
section
variable {own own' : Own} {z : Nat} {w w' : World} {pb : Nat} {D : PlD} {S : Nat → Prop}
theorem OpOk.fr {o : OpV} (h : OpOk own z w o) (hf : Fr S w w') (he : Ext own own' w) (hS : ∀ k, own k = ⟨z, .oth 5⟩ → ¬ S k) : OpOk own' z w' o := Row.fr h hf he hS
theorem DeedOk.fr {d : DeedV} (h : DeedOk own z w d) (hf : Fr S w w') (he : Ext own own' w) (h5 : ∀ k, own k = ⟨z, .oth 5⟩ → ¬ S k) (hl : ∀ k, own k = ⟨z, .lists⟩ → ¬ S k) : DeedOk own' z w' d := ⟨h.1.fr hf he h5, h.2.1.fr hf he hl, h.2.2⟩
/-- What does not touch the two zones leaves the player as it is. -/
theorem PlAt.fr (h : PlAt own z w pb D) (hf : Fr S w w') (he : Ext own own' w) (hS : ∀ k, (own k).z = z ∨ (own k).z = z + 1 → ¬ S k) : PlAt own' z w' pb D := by
  have hT : ∀ tag k, own k = ⟨z + 1, tag⟩ → ¬ S k := fun tag k hk => hS k (.inr (by rw [hk]))
  exact ⟨(at_fr h.at_ h.tg hf he (hT _)).1, (at_fr h.at_ h.tg hf he (hT _)).2, h.st.fr hf he (fun k hk => hS k (.inl hk)), h.fit, h.thr, h.busy.fr hf he (hT _), h.bl, h.ops.fr hf he (hT _), h.ol, h.frm.fr hf he (hT _), h.fl, h.deeds.fr hf he (hT _), fun o ho => (h.opk o ho).fr hf he (hT _), fun d hd => (h.dok d hd).fr hf he (hT _) (hT _)⟩
theorem PlAt.calm (h : PlAt own z w pb D) (hf : Fr (fun _ => False) w w') : PlAt own z w' pb D := h.fr hf (Ext.refl _ _) (fun _ _ h => h)
/-- Only the two zones have turned. -/
def FrP (own : Own) (z : Nat) (w w' : World) : Prop := Fr (fun k => (own k).z = z ∨ (own k).z = z + 1) w w'
theorem FrP.trans {own1 : Own} {w1 w2 : World} (h : FrP own z w w1) (he : Ext own own1 w) (k : FrP own1 z w1 w2) : FrP own z w w2 :=
  Fr.transNew h k (fun i hi => by
    by_cases hlt : i < w.heap.size
    · left; rw [← he i hlt]; exact hi
    · right; omega)
def PlGoes (own : Own) (z : Nat) (w : World) (pb : Nat) (w' : World) (Q : PlD → Prop) : Prop := ∃ own' D', PlAt own' z w' pb D' ∧ Ext own own' w ∧ FrP own z w w' ∧ Q D'
theorem PlGoes.trans {own1 : Own} {w1 w2 : World} {Q : PlD → Prop} (he : Ext own own1 w) (hf : FrP own z w w1) (h : PlGoes own1 z w1 pb w2 Q) : PlGoes own z w pb w2 Q := by
  obtain ⟨own2, D2, h1, h2, h3, h4⟩ := h
  exact ⟨own2, D2, h1, Ext.trans he h2 hf.size, FrP.trans hf he h3, h4⟩
/-- The store has gone on. -/
theorem PlAt.store (h : PlAt own z w pb D) {P' : PSt} (hg : ZGoes own z w D.L P' w') {N' : Nat} (hfit : Fit N' P') (hl : P'.ts.length = D.P.ts.length) :
    ∃ own' L', PlAt own' z w' pb { D with L := L', P := P', N := N' } ∧ Ext own own' w ∧ FrP own z w w' ∧ L'.s = D.L.s := by
  obtain ⟨own', L', hZ, hE, hF, e1, e2, e3⟩ := hg
  have hT : ∀ tag k, own k = ⟨z + 1, tag⟩ → ¬ (own k).z = z := fun tag k hk h => by rw [hk] at h; simp at h
  have hA := at_fr h.at_ h.tg hF hE (hT _)
  refine ⟨own', L', ⟨?_, hA.2, hZ, hfit, by rw [hl]; exact h.thr, ?_, by rw [hl]; exact h.bl, ?_, by rw [hl]; exact h.ol, ?_, by rw [hl]; exact h.fl, h.deeds.fr hF hE (hT _), fun o ho => (h.opk o ho).fr hF hE (hT _), fun d hd => (h.dok d hd).fr hF hE (hT _) (hT _)⟩, hE, Fr.mono hF (fun k _ h => .inl h), e1⟩
  · have := hA.1
    simp only [PlD.cells, e1] at this ⊢
    exact this
  · rw [hl]; exact h.busy.fr hF hE (hT _)
  · rw [hl]; exact h.ops.fr hF hE (hT _)
  · rw [hl]; exact h.frm.fr hF hE (hT _)
theorem bool_get {l : List Bool} {i : Nat} {b : Bool} (h : l[i]? = some b) : (boolCells l)[i]? = some (.bool b) := by simp [boolCells, h]
theorem int_get {l : List Int} {i : Nat} {b : Int} (h : l[i]? = some b) : (intCells l)[i]? = some (.int .i64 b) := by simp [intCells, h]
/-- The row of the busy ones is there, with a cell for each thread. -/
theorem PlAt.busyRow (h : PlAt own z w pb D) {i : Nat} {b : Bool} (hb : D.bs[i]? = some b) : ∃ g c, D.bv = .slice (some ⟨g, 0, none⟩) D.P.ts.length c ∧ w.cell? ⟨g, i, none⟩ = some (.bool b) ∧ (∀ o, w.frozen? ⟨g, o, none⟩ = false) ∧ own g = ⟨z + 1, .oth 1⟩ ∧ g < w.heap.size := by
  have hi := (List.getElem?_eq_some_iff.1 hb).1
  rw [h.bl] at hi
  obtain ⟨g, c, hv, _⟩ := ownsRow_shape h.busy.row (by omega)
  have ho := h.busy.row
  rw [hv] at ho
  exact ⟨g, c, hv, ownsRow_cell ho (bool_get hb), ownsRow_frozen ho, h.busy.tg g (by rw [hv]; rfl), ownsRow_lt0 ho⟩
/-- One is set. -/
theorem PlAt.setBusy (h : PlAt own z w pb D) {g c i : Nat} (hv : D.bv = .slice (some ⟨g, 0, none⟩) D.P.ts.length c) (b : Bool) : PlAt own z (w.setCell ⟨g, i, none⟩ (.bool b)) pb { D with bs := D.bs.set i b } ∧ FrP own z w (w.setCell ⟨g, i, none⟩ (.bool b)) := by
  have hg := h.busy.tg g (by rw [hv]; rfl)
  have hf : Fr (fun k => k = g) w (w.setCell ⟨g, i, none⟩ (.bool b)) := (Fr.refl _ _).set1 i (.bool b)
  have he := Ext.refl own w
  have hT : ∀ zz tag k, (zz, tag) ≠ (z + 1, Tag.oth 1) → own k = ⟨zz, tag⟩ → ¬ k = g := by
    rintro zz tag k hne hk rfl
    rw [hg] at hk
    simp at hk
    exact hne (by rw [hk.1, hk.2])
  have hZ : ∀ k, (own k).z = z → ¬ k = g := by rintro k hk rfl; rw [hg] at hk; simp at hk
  refine ⟨⟨(at_fr h.at_ h.tg hf he (fun k hk => hT _ _ k (by simp) hk)).1, h.tg, h.st.fr hf he hZ, h.fit, h.thr, ⟨?_, h.busy.tg⟩, by simpa using h.bl, h.ops.fr hf he (fun k hk => hT _ _ k (by simp) hk), h.ol, h.frm.fr hf he (fun k hk => hT _ _ k (by simp) hk), h.fl, h.deeds.fr hf he (fun k hk => hT _ _ k (by simp) hk),
    fun o ho => (h.opk o ho).fr hf he (fun k hk => hT _ _ k (by simp) hk), fun d hd => (h.dok d hd).fr hf he (fun k hk => hT _ _ k (by simp) hk) (fun k hk => hT _ _ k (by simp) hk)⟩, Fr.mono hf (by rintro k _ rfl; rw [hg]; exact .inr rfl)⟩
  have ho := h.busy.row
  rw [hv] at ho
  have := ownsRow_set ho i (.bool b)
  simp only [hv]
  rw [show boolCells (D.bs.set i b) = (boolCells D.bs).set i (.bool b) by simp [boolCells, List.map_set]]
  exact this
end
end Go.Proofs.YtfccelbmacjifaaGreat

