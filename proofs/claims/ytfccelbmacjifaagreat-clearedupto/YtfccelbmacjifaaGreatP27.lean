import Derived.Test.YtfccelbmacjifaaGreatP26
set_option linter.unusedSimpArgs false
namespace Go.Proofs.YtfccelbmacjifaaGreat
open Go.RowKit
theorem Tryz.infoBoolP : (Tryz.prog.info? 4).map (fun i => (i.zero, i.size, i.bytes)) = some (some (.bool false), 1, 1) := by kernel_rfl
theorem Tryz.infoOpP : (Tryz.prog.info? 82).map (fun i => (i.zero, i.size, i.bytes)) = some (some (.agg #[.int .i64 0, .int .i64 0, .int .i64 0, .slice none 0 0]), 4, 48) := by kernel_rfl
def blankOp : OpV := ⟨0, 0, 0, [], .slice none 0 0⟩
theorem rep_succ {α : Type} (a : α) (j : Nat) : List.replicate j a ++ [a] = List.replicate (j + 1) a := by
  rw [List.replicate_succ']
theorem fit_fresh {t n e l : Int} (ht : 1 ≤ t ∧ t ≤ 8) (hl : 0 ≤ l ∧ l ≤ 1099511627776) : Fit 0 (freshP 0 t n e l) := by
  refine ⟨rfl, ⟨by show (0 : Int) ≤ 0; omega, hl.1⟩, hl.2, by simp [freshP]; omega, by simp [freshP, PSweep.zero], ?_⟩
  intro i u hu
  have := (List.mem_replicate.1 (List.mem_of_getElem? (show (List.replicate t.toNat PThread.zero)[i]? = some u from hu))).2
  subst this
  exact ⟨fun hb => by simp [PThread.zero] at hb, SmallAns.zero rfl⟩
/-- What has been built of a player's rows. -/
structure Grown (w0 w : World) (pb s : Nat) (t n e l : Int) (bv ov fv : Value) (jb jo jf : Nat) : Prop where
  at_ : At w pb [pv s, .int .i64 0, .int .i64 t, .int .i64 n, .int .i64 e, .int .i64 l, bv, ov, fv, .slice none 0 0, .int .i64 0, .int .i64 0] 80
  b : w.ownsRow 0 4 1 bv jb (boolCells (List.replicate jb false))
  o : w.ownsRow 0 82 4 ov jo ((List.replicate jo blankOp).flatMap OpV.cells)
  f : w.ownsRow 0 3 1 fv jf (intCells (List.replicate jf 0))
  nb : ∀ k, bv.ownBlock = some k → w0.heap.size ≤ k
  no : ∀ k, ov.ownBlock = some k → w0.heap.size ≤ k
  nf : ∀ k, fv.ownBlock = some k → w0.heap.size ≤ k
  np : w0.heap.size ≤ pb
  fr : Fr (fun _ => False) w0 w
section
variable {w0 w : World} {pb s : Nat} {t n e l : Int} {bv ov fv : Value} {jb jo jf : Nat}
theorem apartBlk {v u : Value} (h : v.ownBlock = none ∨ v.ownBlock ≠ u.ownBlock) : ∀ k, u.ownBlock = some k → ¬ v.ownBlock = some k := by
  intro k hk hb
  rcases h with h1 | h1
  · rw [h1] at hb; cases hb
  · rw [hb, hk] at h1; exact h1 rfl
theorem Grown.pushB (h : Grown w0 w pb s t n e l bv ov fv jb jo jf) {w5 : World} {g cap : Nat} {ob : Obj} (hown : w5.ownsRow 0 4 1 (.slice (some ⟨g, 0, none⟩) (jb + 1) cap) (jb + 1) (boolCells (List.replicate jb false) ++ [.bool false])) (hgr : (w.alloc ob).grownBy w5 bv.ownBlock) (hge : bv.ownBlock = some g ∨ w.heap.size ≤ g) :
    Grown w0 (w5.setCell ⟨pb, 6, none⟩ (.slice (some ⟨g, 0, none⟩) (jb + 1) cap)) pb s t n e l (.slice (some ⟨g, 0, none⟩) (jb + 1) cap) ov fv (jb + 1) (jo) (jf) := by
  have hF : Fr (fun k => bv.ownBlock = some k) w w5 := Fr.grown ((Fr.refl _ _).alloc ob) hgr (fun k hk => .inl hk)
  have hA : At w5 pb _ 80 := hF.at h.at_ (h.at_.ne_row h.b (by decide))
  have hne := hA.ne_row hown (by decide)
  have hr := ownsRow_setOther hown (a := ⟨pb, 6, none⟩) hne (.slice (some ⟨g, 0, none⟩) (jb + 1) cap)
  have hn : ∀ k, (Value.slice (some ⟨g, 0, none⟩) (jb + 1) cap).ownBlock = some k → w0.heap.size ≤ k := by
    intro k hk
    simp [Value.ownBlock] at hk
    subst hk
    rcases hge with h1 | h1
    · exact h.nb _ h1
    · have := h.fr.size; omega
  refine ⟨hA.set 6 _, ?_, ownsRow_setOther (hF.owns h.o (apartBlk (ownsRow_ne h.b h.o (by decide)))) (h.at_.ne_row h.o (by decide)) _, ownsRow_setOther (hF.owns h.f (apartBlk (ownsRow_ne h.b h.f (by decide)))) (h.at_.ne_row h.f (by decide)) _, hn, h.no, h.nf, h.np, Fr.setNew h.np (Fr.transNew h.fr hF (fun k hk => .inr (h.nb k hk))) 6 _⟩
  rw [show boolCells (List.replicate (jb + 1) false) = boolCells (List.replicate jb false) ++ [.bool false] from by rw [← rep_succ]; simp [boolCells]]
  exact hr
theorem Grown.pushO (h : Grown w0 w pb s t n e l bv ov fv jb jo jf) {w5 : World} {g cap : Nat} {ob : Obj} (hown : w5.ownsRow 0 82 4 (.slice (some ⟨g, 0, none⟩) (jo + 1) cap) (jo + 1) ((List.replicate jo blankOp).flatMap OpV.cells ++ [.int .i64 0, .int .i64 0, .int .i64 0, .slice none 0 0])) (hgr : (w.alloc ob).grownBy w5 ov.ownBlock) (hge : ov.ownBlock = some g ∨ w.heap.size ≤ g) :
    Grown w0 (w5.setCell ⟨pb, 7, none⟩ (.slice (some ⟨g, 0, none⟩) (jo + 1) cap)) pb s t n e l bv (.slice (some ⟨g, 0, none⟩) (jo + 1) cap) fv (jb) (jo + 1) (jf) := by
  have hF : Fr (fun k => ov.ownBlock = some k) w w5 := Fr.grown ((Fr.refl _ _).alloc ob) hgr (fun k hk => .inl hk)
  have hA : At w5 pb _ 80 := hF.at h.at_ (h.at_.ne_row h.o (by decide))
  have hne := hA.ne_row hown (by decide)
  have hr := ownsRow_setOther hown (a := ⟨pb, 7, none⟩) hne (.slice (some ⟨g, 0, none⟩) (jo + 1) cap)
  have hn : ∀ k, (Value.slice (some ⟨g, 0, none⟩) (jo + 1) cap).ownBlock = some k → w0.heap.size ≤ k := by
    intro k hk
    simp [Value.ownBlock] at hk
    subst hk
    rcases hge with h1 | h1
    · exact h.no _ h1
    · have := h.fr.size; omega
  refine ⟨hA.set 7 _, ownsRow_setOther (hF.owns h.b (apartBlk (ownsRow_ne h.o h.b (by decide)))) (h.at_.ne_row h.b (by decide)) _, ?_, ownsRow_setOther (hF.owns h.f (apartBlk (ownsRow_ne h.o h.f (by decide)))) (h.at_.ne_row h.f (by decide)) _, h.nb, hn, h.nf, h.np, Fr.setNew h.np (Fr.transNew h.fr hF (fun k hk => .inr (h.no k hk))) 7 _⟩
  rw [show (List.replicate (jo + 1) blankOp).flatMap OpV.cells = (List.replicate jo blankOp).flatMap OpV.cells ++ [.int .i64 0, .int .i64 0, .int .i64 0, .slice none 0 0] from by rw [← rep_succ, List.flatMap_append]; rfl]
  exact hr
theorem Grown.pushF (h : Grown w0 w pb s t n e l bv ov fv jb jo jf) {w5 : World} {g cap : Nat} {ob : Obj} (hown : w5.ownsRow 0 3 1 (.slice (some ⟨g, 0, none⟩) (jf + 1) cap) (jf + 1) (intCells (List.replicate jf 0) ++ [.int .i64 0])) (hgr : (w.alloc ob).grownBy w5 fv.ownBlock) (hge : fv.ownBlock = some g ∨ w.heap.size ≤ g) :
    Grown w0 (w5.setCell ⟨pb, 8, none⟩ (.slice (some ⟨g, 0, none⟩) (jf + 1) cap)) pb s t n e l bv ov (.slice (some ⟨g, 0, none⟩) (jf + 1) cap) (jb) (jo) (jf + 1) := by
  have hF : Fr (fun k => fv.ownBlock = some k) w w5 := Fr.grown ((Fr.refl _ _).alloc ob) hgr (fun k hk => .inl hk)
  have hA : At w5 pb _ 80 := hF.at h.at_ (h.at_.ne_row h.f (by decide))
  have hne := hA.ne_row hown (by decide)
  have hr := ownsRow_setOther hown (a := ⟨pb, 8, none⟩) hne (.slice (some ⟨g, 0, none⟩) (jf + 1) cap)
  have hn : ∀ k, (Value.slice (some ⟨g, 0, none⟩) (jf + 1) cap).ownBlock = some k → w0.heap.size ≤ k := by
    intro k hk
    simp [Value.ownBlock] at hk
    subst hk
    rcases hge with h1 | h1
    · exact h.nf _ h1
    · have := h.fr.size; omega
  refine ⟨hA.set 8 _, ownsRow_setOther (hF.owns h.b (apartBlk (ownsRow_ne h.f h.b (by decide)))) (h.at_.ne_row h.b (by decide)) _, ownsRow_setOther (hF.owns h.o (apartBlk (ownsRow_ne h.f h.o (by decide)))) (h.at_.ne_row h.o (by decide)) _, ?_, h.nb, h.no, hn, h.np, Fr.setNew h.np (Fr.transNew h.fr hF (fun k hk => .inr (h.nf k hk))) 8 _⟩
  rw [show intCells (List.replicate (jf + 1) 0) = intCells (List.replicate jf 0) ++ [.int .i64 0] from by rw [← rep_succ]; simp [intCells]]
  exact hr
end
section
variable {own : Own} {z : Nat}
/-- A player that has just been made. -/
structure FreshPl (t n e l : Int) (D : PlD) : Prop where
  P : D.P = freshP 0 t n e l
  N : D.N = 0
  ok : D.ok
  cfg : D.k = 0 ∧ D.t = t ∧ D.n = n ∧ D.e = e ∧ D.l = l
  deeds : D.deeds = []
  cnt : D.puts = 0 ∧ D.takes = 0
theorem Grown.player {w w0 w' : World} {pb : Nat} {t n e l : Int} {bv ov fv : Value} {L : XLay} (ht : 1 ≤ t ∧ t ≤ 8) (hl : 0 ≤ l ∧ l ≤ 1099511627776) (hX : XAt w0 L (freshX 0 t n e l)) (hL : ∀ b, L.own b → w.heap.size ≤ b) (hw : w.heap.size ≤ w0.heap.size) (hf : Fr (fun _ => False) w w0)
    (h : Grown w0 w' pb L.s t n e l bv ov fv t.toNat t.toNat t.toNat) : ∃ own' D, PlAt own' z w' pb D ∧ Ext own own' w ∧ FreshPl t n e l D ∧ Fr (fun _ => False) w w' := by
  obtain ⟨own1, L', hZ, hE1, es⟩ := ZAt.ofNew (own := own) (z := z) (w := w) hX hL ht.2
  obtain ⟨own2, ho2⟩ : ∃ own2 : Own, own2 = fun k => if k = pb then ⟨z + 1, .store⟩ else if bv.ownBlock = some k then ⟨z + 1, .oth 1⟩ else if ov.ownBlock = some k then ⟨z + 1, .oth 2⟩ else if fv.ownBlock = some k then ⟨z + 1, .oth 3⟩ else own1 k := ⟨_, rfl⟩
  have hE2 : Ext own1 own2 w0 := by
    intro k hk
    rw [ho2]
    simp only
    rw [if_neg (fun e => by have := h.np; omega), if_neg (fun e => by have := h.nb k e; omega), if_neg (fun e => by have := h.no k e; omega), if_neg (fun e => by have := h.nf k e; omega)]
  have pne : ∀ k v (n : Nat) xs T sz, w'.ownsRow 0 T sz v n xs → T ≠ 80 → v.ownBlock = some k → k ≠ pb := by
    rintro k v n xs T sz hr hT hk rfl
    exact h.at_.ne_row hr (fun e => hT e.symm) hk
  have o1 : ∀ k, bv.ownBlock = some k → own2 k = ⟨z + 1, .oth 1⟩ := by
    intro k hk; rw [ho2]; simp only
    rw [if_neg (pne k _ _ _ _ _ h.b (by decide) hk), if_pos hk]
  have o2 : ∀ k, ov.ownBlock = some k → own2 k = ⟨z + 1, .oth 2⟩ := by
    intro k hk; rw [ho2]; simp only
    rw [if_neg (pne k _ _ _ _ _ h.o (by decide) hk), if_neg (apartBlk (ownsRow_ne h.b h.o (by decide)) k hk), if_pos hk]
  have o3 : ∀ k, fv.ownBlock = some k → own2 k = ⟨z + 1, .oth 3⟩ := by
    intro k hk; rw [ho2]; simp only
    rw [if_neg (pne k _ _ _ _ _ h.f (by decide) hk), if_neg (apartBlk (ownsRow_ne h.b h.f (by decide)) k hk), if_neg (apartBlk (ownsRow_ne h.o h.f (by decide)) k hk), if_pos hk]
  have hop : own2 pb = ⟨z + 1, .store⟩ := by rw [ho2]; simp
  have hlen : (freshP 0 t n e l).ts.length = t.toNat := by simp [freshP]
  refine ⟨own2, { L := L', P := freshP 0 t n e l, N := 0, k := 0, t := t, n := n, e := e, l := l, bv := bv, ov := ov, fv := fv, dv := .slice none 0 0, bs := List.replicate t.toNat false, ops := List.replicate t.toNat blankOp, frm := List.replicate t.toNat 0, deeds := [], puts := 0, takes := 0 }, ⟨?_, hop, hZ.fr h.fr hE2 (fun _ _ h => h), fit_fresh ht hl, by rw [hlen]; show t = _; omega, ⟨by rw [hlen]; exact h.b, o1⟩, by rw [hlen]; simp, ⟨by rw [hlen]; exact h.o, o2⟩, by rw [hlen]; simp, ⟨by rw [hlen]; exact h.f, o3⟩, by rw [hlen]; simp, Row.nil _ _ _ _ _ _, ?_, by simp⟩, ?_, ⟨rfl, rfl, ?_, ⟨rfl, rfl, rfl, rfl, rfl⟩, rfl, ⟨rfl, rfl⟩⟩, hf.trans h.fr⟩
  · have := h.at_
    simp only [PlD.cells, es]
    exact this
  · intro o ho
    have := (List.mem_replicate.1 ho).2
    subst this
    exact Row.nil _ _ _ _ _ _
  · intro k hk; rw [hE2 k (by omega)]; exact hE1 k hk
  · show List.replicate t.toNat false = (List.replicate t.toNat PThread.zero).map (·.busy)
    rw [List.map_replicate]; rfl
set_option maxHeartbeats 2000000 in
set_option maxRecDepth 100000 in
theorem player_calls (t n e l : Int) (w : World) (own : Own) (z : Nat) (hok : okCfg 0 t n e l = true) :
    Calls Tryz.prog 40 #[cfg 0 t n e l] w fun r w' => ∃ pb, r = .returned (pv pb) ∧ ∃ own' D, PlAt own' z w' pb D ∧ Ext own own' w ∧ FreshPl t n e l D ∧ Fr (fun _ => False) w w' := by
  obtain ⟨_, ht, hn, he, hl⟩ : (0 ≤ (0 : Int) ∧ (0 : Int) ≤ 1) ∧ (1 ≤ t ∧ t ≤ 8) ∧ (0 ≤ n ∧ n ≤ 64) ∧ (1 ≤ e ∧ e ≤ 256) ∧ (0 ≤ l ∧ l ≤ 1099511627776) := by
    simp only [okCfg, Bool.and_eq_true, isIn_iff] at hok
    omega
  obtain ⟨iB, hiB, hzB, hsB, hbB⟩ := info_parts Tryz.infoBoolP
  obtain ⟨iO, hiO, hzO, hsO, hbO⟩ := info_parts Tryz.infoOpP
  obtain ⟨iI, hiI, hzI, hsI, hbI⟩ := info_parts Tryz.infoIntZ
  have HOK : Hid _ := hok
  have HLm := (show Hid (0 ≤ l ∧ l ≤ 1099511627776) from hl)
  obtain ⟨ht1, ht2⟩ := ht
  clear hok hn he hl
  unfold cfg
  go_enter Tryz.func40, Tryz.ntmps40
  go_wp2_with fail
  refine (XNew_yes 0 t n e l _ HOK.out).mono ?_
  rintro r w1 ⟨L, rfl, hX, hF1, hL⟩
  have hC : At w1 w.heap.size [.int .i64 0, .int .i64 t, .int .i64 n, .int .i64 e, .int .i64 l] 23 := hF1.at (At.new w _ _) (fun h => h)
  have hcc := hC.cell
  have HC := (show Hid (At w1 w.heap.size _ 23) from hC)
  have HF1 := (show Hid (Fr (fun _ => False) w w1) from ((Fr.refl _ _).alloc _).trans hF1)
  have HX := (show Hid (XAt _ _ _) from hX)
  simp only [World.size_alloc] at hL
  have HL := (show Hid (∀ b, L.own b → w.heap.size ≤ b) from fun b hb => by have := hL b hb; omega)
  clear hF1 hC hX hL
  go_wp2_with fail
  have HG0 : Hid (Grown w1 (w1.alloc (.cells #[.pointer (some ⟨L.s, 0, none⟩), .int .i64 0, .int .i64 t, .int .i64 n, .int .i64 e, .int .i64 l, .slice none 0 0, .slice none 0 0, .slice none 0 0, .slice none 0 0, .int .i64 0, .int .i64 0] 80)) w1.heap.size L.s t n e l (.slice none 0 0) (.slice none 0 0) (.slice none 0 0) 0 0 0) :=
    ⟨At.new w1 _ _, ⟨by simp [boolCells], .inl ⟨rfl, rfl⟩⟩, ⟨by simp, .inl ⟨rfl, rfl⟩⟩, ⟨by simp [intCells], .inl ⟨rfl, rfl⟩⟩, by intro k hk; simp [Value.ownBlock] at hk, by intro k hk; simp [Value.ownBlock] at hk, by intro k hk; simp [Value.ownBlock] at hk, Nat.le_refl _, (Fr.refl _ _).alloc _⟩
  generalize hpb : w1.heap.size = pb at HG0 ⊢
  clear hcc
  go_loopw [6] (fun i wr => ∃ j : Nat, (j : Int) ≤ t ∧ i = .int .i64 j ∧ ∃ bv ov fv, Hid (Grown w1 wr pb L.s t n e l bv ov fv j j j)) (fun i _ => (t - intOf i).toNat)
  case atStart => exact ⟨0, by omega, rfl, _, _, _, HG0⟩
  case round =>
    clear HG0
    obtain ⟨j, hj, rfl, bv, ov, fv, HG⟩ := hrel
    have hcc := (HG.out.fr.at HC.out (fun h => h)).cell
    have ha := HG.out.at_.cell
    have hz := HG.out.at_.frozen
    have hpl := HG.out.at_.lt
    simp only [pv] at ha
    by_cases hlt : (j : Int) < t
    · have hne : w.heap.size ≠ pb := (HG.out.fr.at HC.out (fun h => h)).ne HG.out.at_ (by decide)
      obtain ⟨ba, bc, hbv⟩ := ownsShape HG.out.b
      obtain ⟨oa, oc, hov⟩ := ownsShape HG.out.o
      obtain ⟨fa, fc, hfv⟩ := ownsShape HG.out.f
      subst hbv hov hfv
      go_wp2_with (at_builtin; refine wpList_push _ rfl _ _ 75 rfl 0 4 iB _ 1 1 Tryz.underlying75 hiB hzB hsB hbB rfl (by decide) _ _ _ rfl (ownsRow_alloc HG.out.b _) wr.heap.size [.bool false] rfl rfl 4 (At.newAt (by simp) _ _) (by simp [Value.oneCell']) (by unfold maxLen; omega) (by omega) (by simp) ?_)
      intro g1 k1 w2 hown hgr hge
      have hA2 : At w2 pb _ 80 := (Fr.grown ((Fr.refl (fun k => (Value.slice ba j bc).ownBlock = some k) wr).alloc _) hgr (fun k hk => .inl hk)).at HG.out.at_ (HG.out.at_.ne_row HG.out.b (by decide))
      have HG1 := (show Hid (Grown w1 _ pb L.s t n e l _ _ _ (j + 1) j j) from HG.out.pushB hown hgr (by rcases hge with h | h; exact .inl h; exact .inr (by first | omega | (simp at h; omega))))
      have ha2 := hA2.cell
      have hz2 := hA2.frozen
      have hl2 := hA2.lt
      simp only [pv] at ha2
      clear hown hgr hge hA2 ha hz hpl HG hcc
      obtain ⟨w3, hw3⟩ : ∃ w3, w3 = w2.setCell ⟨pb, 6, none⟩ (.slice (some ⟨g1, 0, none⟩) (j + 1) k1) := ⟨_, rfl⟩
      rw [← hw3] at HG1
      have ha3 : ∀ o, (w2.setCell ⟨pb, 6, none⟩ (.slice (some ⟨g1, 0, none⟩) (j + 1) k1)).cell? ⟨pb, o, none⟩ = [Value.pointer (some ⟨L.s, 0, none⟩), .int .i64 0, .int .i64 t, .int .i64 n, .int .i64 e, .int .i64 l, .slice (some ⟨g1, 0, none⟩) (j + 1) k1, .slice oa j oc, .slice fa j fc, .slice none 0 0, .int .i64 0, .int .i64 0][o]? := by rw [← hw3]; exact HG1.out.at_.cell
      have hR1 : (w2.setCell ⟨pb, 6, none⟩ (.slice (some ⟨g1, 0, none⟩) (j + 1) k1)).ownsRow 0 82 4 (.slice oa j oc) j ((List.replicate j blankOp).flatMap OpV.cells) := by rw [← hw3]; exact HG1.out.o
      have HR1 := (show Hid (World.ownsRow _ 0 _ _ _ _ _) from hR1)
      clear hR1
      go_wp2_with (at_builtin; refine wpList_push _ rfl _ _ 76 rfl 0 82 iO _ 4 48 Tryz.underlying76 hiO hzO hsO hbO rfl (by decide) _ _ _ rfl (ownsRow_alloc HR1.out _) w2.heap.size [.int .i64 0, .int .i64 0, .int .i64 0, .slice none 0 0] rfl rfl 82 (At.newAt (by simp) _ _) (by simp [Value.oneCell']) (by unfold maxLen; omega) (by omega) (by simp) ?_)
      intro g2 k2 w4 hown hgr hge
      rw [← hw3] at hgr
      have hA4 : At w4 pb _ 80 := (Fr.grown ((Fr.refl (fun k => (Value.slice oa j oc).ownBlock = some k) w3).alloc _) hgr (fun k hk => .inl hk)).at HG1.out.at_ (HG1.out.at_.ne_row HG1.out.o (by decide))
      have HG2 := (show Hid (Grown w1 _ pb L.s t n e l _ _ _ (j + 1) (j + 1) j) from HG1.out.pushO hown hgr (by rcases hge with h | h; exact .inl h; exact .inr (by rw [hw3]; first | omega | (simp at h ⊢; omega))))
      have ha4 := hA4.cell
      have hz4 := hA4.frozen
      have hl4 := hA4.lt
      simp only [pv] at ha4
      clear hown hgr hge hA4 ha2 hz2 hl2 HG1 ha3 hw3 HR1
      obtain ⟨w5, hw5⟩ : ∃ w5, w5 = w4.setCell ⟨pb, 7, none⟩ (.slice (some ⟨g2, 0, none⟩) (j + 1) k2) := ⟨_, rfl⟩
      rw [← hw5] at HG2
      have ha5 : ∀ o, (w4.setCell ⟨pb, 7, none⟩ (.slice (some ⟨g2, 0, none⟩) (j + 1) k2)).cell? ⟨pb, o, none⟩ = [Value.pointer (some ⟨L.s, 0, none⟩), .int .i64 0, .int .i64 t, .int .i64 n, .int .i64 e, .int .i64 l, .slice (some ⟨g1, 0, none⟩) (j + 1) k1, .slice (some ⟨g2, 0, none⟩) (j + 1) k2, .slice fa j fc, .slice none 0 0, .int .i64 0, .int .i64 0][o]? := by rw [← hw5]; exact HG2.out.at_.cell
      have HR2 := (show Hid ((w4.setCell ⟨pb, 7, none⟩ (.slice (some ⟨g2, 0, none⟩) (j + 1) k2)).ownsRow 0 3 1 (.slice fa j fc) j (intCells (List.replicate j 0))) from by rw [← hw5]; exact HG2.out.f)
      go_wp2_with (at_builtin; refine wpList_push _ rfl _ _ 77 rfl 0 3 iI _ 1 8 Tryz.underlying77 hiI hzI hsI hbI rfl (by decide) _ _ _ rfl (ownsRow_alloc HR2.out _) w4.heap.size [.int .i64 0] rfl rfl 3 (At.newAt (by simp) _ _) (by simp [Value.oneCell']) (by unfold maxLen; omega) (by omega) (by simp) ?_)
      intro g3 k3 w6 hown hgr hge
      rw [← hw5] at hgr
      have hA6 : At w6 pb _ 80 := (Fr.grown ((Fr.refl (fun k => (Value.slice fa j fc).ownBlock = some k) w5).alloc _) hgr (fun k hk => .inl hk)).at HG2.out.at_ (HG2.out.at_.ne_row HG2.out.f (by decide))
      have HG3 := (show Hid (Grown w1 _ pb L.s t n e l _ _ _ (j + 1) (j + 1) (j + 1)) from HG2.out.pushF hown hgr (by rcases hge with h | h; exact .inl h; exact .inr (by rw [hw5]; first | omega | (simp at h ⊢; omega))))
      have ha6 := hA6.cell
      have hz6 := hA6.frozen
      have hl6 := hA6.lt
      simp only [pv] at ha6
      clear hown hgr hge hA6 ha4 hz4 hl4 HG2 ha5 hw5 HR2
      go_wp2
      go_roundw
      case rel => exact ⟨j + 1, by omega, by go_num, _, _, _, HG3⟩
      case measure => simp [intOf]; omega
    · have hjt : j = t.toNat := by omega
      have HGt := (show Hid (Grown w1 wr pb L.s t n e l bv ov fv t.toNat t.toNat t.toNat) from by rw [← hjt]; exact HG.out)
      clear hjt
      go_wp2
      go_ret
      obtain ⟨own', D, h1, h2, h3, h4⟩ := HGt.out.player (own := own) (z := z) ⟨ht1, ht2⟩ HLm.out HX.out HL.out HF1.out.size HF1.out
      exact ⟨pb, rfl, own', D, h1, h2, h3, h4⟩
end
end Go.Proofs.YtfccelbmacjifaaGreat

set_option linter.unusedSimpArgs false
namespace Go.Proofs.YtfccelbmacjifaaGreat
open Go.RowKit
/-- A thread's steps, one after another. -/
def PSt.iter (P : PSt) (i : Nat) : Nat → PSt
  | 0 => P
  | j + 1 => ((P.iter i j).step i ((P.iter i j).th i)).1
def PSt.how (P : PSt) (i j : Nat) : Int := ((P.iter i j).step i ((P.iter i j).th i)).2
/-- The sweep's steps, one after another. -/
def PSt.swIter (P : PSt) : Nat → PSt
  | 0 => P
  | j + 1 => (P.swIter j).doSweep.1
structure Iter (D : PlD) (i j : Nat) (D' : PlD) : Prop where
  P : D'.P = D.P.iter i j
  N : D'.N = D.N + j
  cfg : D'.k = D.k ∧ D'.t = D.t ∧ D'.n = D.n ∧ D'.e = D.e ∧ D'.l = D.l
  same : D'.ops = D.ops ∧ D'.frm = D.frm ∧ D'.puts = D.puts ∧ D'.takes = D.takes ∧ D'.bs = D.bs ∧ D'.deeds = D.deeds
  busy : ∃ t, D'.P.ts[i]? = some t ∧ t.busy = true
structure Soloed (D : PlD) (i m : Nat) (D' : PlD) : Prop where
  P : D'.P = D.P.iter i (m + 1)
  N : D'.N = D.N + m + 1
  cfg : D'.k = D.k ∧ D'.t = D.t ∧ D'.n = D.n ∧ D'.e = D.e ∧ D'.l = D.l
  same : D'.ops = D.ops ∧ D'.frm = D.frm ∧ D'.puts = D.puts ∧ D'.takes = D.takes
  bs : D'.bs = D.bs.set i false
  deeds : ∃ av o f, D.ops[i]? = some o ∧ D.frm[i]? = some f ∧ D'.deeds = D.deeds ++ [⟨o, ((D.P.iter i m).th i).work.ans, av, f⟩]
section
variable {own : Own} {z : Nat} {w w' : World} {pb : Nat} {D D1 : PlD} {i j : Nat} {t : PThread}
theorem th_of {P : PSt} (h : P.ts[i]? = some t) : P.th i = t := by simp [PSt.th, h]
theorem Iter.next (h : Iter D i j D1) (hf : Fit D1.N D1.P) {D2 : PlD} (hs : Stepped D1 i (D1.P.th i) D2) (h1 : D.P.how i j = 1) : Iter D i (j + 1) D2 := by
  obtain ⟨t, ht, hb⟩ := h.busy
  have hth := th_of ht
  have hP : D2.P = D.P.iter i (j + 1) := by rw [hs.P, PSt.iter, h.P]
  have h2 : (D1.P.step i (D1.P.th i)).2 = 1 := by rw [h.P]; exact h1
  refine ⟨hP, by rw [hs.N, h.N]; omega, ?_, ⟨hs.ops.trans h.same.1, hs.frm.trans h.same.2.1, hs.cnt.1.trans h.same.2.2.1, hs.cnt.2.trans h.same.2.2.2.1, ?_, ?_⟩, ?_⟩
  · obtain ⟨a1, a2, a3, a4, a5⟩ := hs.cfg
    obtain ⟨b1, b2, b3, b4, b5⟩ := h.cfg
    exact ⟨a1.trans b1, a2.trans b2, a3.trans b3, a4.trans b4, a5.trans b5⟩
  · rw [hs.bs, if_neg (by omega)]; exact h.same.2.2.2.2.1
  · rw [hs.deeds.1 (by omega)]; exact h.same.2.2.2.2.2
  · rw [hth] at h2 hs
    obtain ⟨M, c, t', e, _, _, _, hb', _⟩ := (hf.turn ht hb).to
    refine ⟨t', ?_, ?_⟩
    · rw [hs.P, e]
      have := (List.getElem?_eq_some_iff.1 ht).1
      simp [this]
    · rw [hb', if_neg (by omega)]
set_option maxHeartbeats 1000000 in
set_option maxRecDepth 100000 in
theorem Psolo_calls (h : PlAt own z w pb D) (hn : 0 ≤ D.n ∧ D.n ≤ 64) (hb : D.bs[i]? = some true) (ht : D.P.ts[i]? = some t) (htb : t.busy = true) (hN : D.N ≤ 2 ^ 38) (hdl : D.deeds.length ≤ 2 ^ 38) (m : Nat) (hm : (m : Int) < D.n + 16) (hmv : ∀ j, j < m → D.P.how i j = 1) (hend : D.P.how i m = 3) :
    Calls Tryz.prog 51 #[pv pb, .int .i64 i] w fun r w' => r = .returned (.bool true) ∧ PlGoes own z w pb w' (Soloed D i m) := by
  obtain ⟨hn1, hn2⟩ := hn
  have H := (show Hid (PlAt own z w pb D) from h)
  have HI := (show Hid (Iter D i 0 D) from ⟨rfl, rfl, ⟨rfl, rfl, rfl, rfl, rfl⟩, ⟨rfl, rfl, rfl, rfl, rfl, rfl⟩, t, ht, htb⟩)
  have HB := (show Hid (D.bs[i]? = some true) from hb)
  have HM := (show Hid (∀ j, j < m → D.P.how i j = 1) from hmv)
  have HE := (show Hid (D.P.how i m = 3) from hend)
  clear h ht htb hb hmv hend
  unfold pv
  go_enter Tryz.func51, Tryz.ntmps51
  go_wp2
  go_loopw [5] (fun v wr => ∃ j : Nat, j ≤ m ∧ v = .int .i64 j ∧ Hid (PlGoes own z w pb wr (Iter D i j))) (fun v _ => m + 1 - (intOf v).toNat)
  case atStart => exact ⟨0, by omega, rfl, own, D, H.out, Ext.refl _ _, Fr.refl _ _, HI.out⟩
  case round =>
    clear H
    obtain ⟨j, hj, rfl, HG⟩ := hrel
    obtain ⟨own1, D1, hP, hE, hF, hI⟩ := HG.out
    have HP := (show Hid (PlAt own1 z wr pb D1) from hP)
    have HX := (show Hid (Ext own own1 w ∧ FrP own z w wr) from ⟨hE, hF⟩)
    have HIt := (show Hid (Iter D i j D1) from hI)
    have ha := hP.at_.cell
    simp only [PlD.cells, hI.cfg.2.2.1, pv] at ha
    clear hP hE hF hI HG
    obtain ⟨t1, ht1, hb1⟩ := HIt.out.busy
    have HT := (show Hid (D1.P.ts[i]? = some t1 ∧ t1.busy = true ∧ D1.P.th i = t1) from ⟨ht1, hb1, th_of ht1⟩)
    have HBs := (show Hid (D1.bs[i]? = some true) from by show _ = _; rw [HIt.out.same.2.2.2.2.1]; exact HB.out)
    have HD := (show Hid (D1.N < 2 ^ 39 ∧ D1.deeds.length ≤ 2 ^ 38) from ⟨by rw [HIt.out.N]; omega, by rw [HIt.out.same.2.2.2.2.2]; exact hdl⟩)
    clear ht1 hb1
    by_cases hlt : j < m
    · have h1 := HM.out j hlt
      have HH := (show Hid ((D1.P.step i t1).2 = 1) from by show _ = _; rw [← HT.out.2.2, HIt.out.P]; exact h1)
      go_wp2_with fail
      refine (Psteps_on HP.out HBs.out HT.out.1 HT.out.2.1 HD.out.1 (by rw [HH.out]; decide)).mono ?_
      rw [HH.out]
      rintro r w2 ⟨rfl, own2, D2, hP2, hE2, hF2, hS2⟩
      have HG2 := (show Hid (PlGoes own z w pb w2 (Iter D i (j + 1))) from PlGoes.trans HX.out.1 HX.out.2 ⟨own2, D2, hP2, hE2, hF2, HIt.out.next HP.out.fit (by rw [HT.out.2.2]; exact hS2) h1⟩)
      clear hP2 hE2 hF2 hS2 h1
      go_wp2
      go_roundw
      case rel => exact ⟨j + 1, by omega, by go_num, HG2⟩
      case measure => simp [intOf]; omega
    · have hjm : Hid (j = m) := by show j = m; omega
      have HH := (show Hid ((D1.P.step i t1).2 = 3) from by show _ = _; rw [← HT.out.2.2, HIt.out.P, hjm.out]; exact HE.out)
      go_wp2_with fail
      refine (Psteps_end HP.out HBs.out HT.out.1 HT.out.2.1 HD.out.1 HD.out.2 HH.out).mono ?_
      rintro r w2 ⟨rfl, own2, D2, hP2, hE2, hF2, hS2⟩
      have HG2 := (show Hid (PlGoes own z w pb w2 (Soloed D i m)) from PlGoes.trans HX.out.1 HX.out.2 ⟨own2, D2, hP2, hE2, hF2, by
        have hI := HIt.out
        rw [hjm.out] at hI
        obtain ⟨av, o, f, q1, q2, q3⟩ := hS2.deeds.2 HH.out
        refine ⟨?_, by rw [hS2.N, hI.N], ?_, ⟨hS2.ops.trans hI.same.1, hS2.frm.trans hI.same.2.1, hS2.cnt.1.trans hI.same.2.2.1, hS2.cnt.2.trans hI.same.2.2.2.1⟩, ?_, ?_⟩
        · rw [hS2.P, PSt.iter, ← hI.P, HT.out.2.2]
        · obtain ⟨a1, a2, a3, a4, a5⟩ := hS2.cfg
          obtain ⟨b1, b2, b3, b4, b5⟩ := hI.cfg
          exact ⟨a1.trans b1, a2.trans b2, a3.trans b3, a4.trans b4, a5.trans b5⟩
        · rw [hS2.bs, if_pos HH.out, hI.same.2.2.2.2.1]
        · refine ⟨av, o, f, by rw [← hI.same.1]; exact q1, by rw [← hI.same.2.1]; exact q2, ?_⟩
          rw [q3, hI.same.2.2.2.2.2, ← hI.P, HT.out.2.2]⟩)
      clear hP2 hE2 hF2 hS2
      go_wp2
      go_ret
      exact ⟨rfl, HG2.out⟩
end
end Go.Proofs.YtfccelbmacjifaaGreat

set_option linter.unusedSimpArgs false
namespace Go.Proofs.YtfccelbmacjifaaGreat
open Go.RowKit
def PSt.swHow (P : PSt) (j : Nat) : Int := (P.swIter j).doSweep.2
def SwN (D : PlD) (j : Nat) (D' : PlD) : Prop := ∃ L', L'.s = D.L.s ∧ D' = { D with L := L', P := D.P.swIter j }
section
variable {own : Own} {z : Nat} {w w' : World} {pb : Nat} {D D1 : PlD} {i j : Nat}
theorem sweep_ts (P : PSt) : P.doSweep.1.ts = P.ts := by
  unfold PSt.doSweep
  simp only
  split
  · rfl
  · split
    · split <;> rfl
    · split <;> rfl
theorem swIter_ts (P : PSt) : ∀ j, (P.swIter j).ts = P.ts
  | 0 => rfl
  | j + 1 => by rw [PSt.swIter, sweep_ts, swIter_ts P j]
set_option maxHeartbeats 1000000 in
set_option maxRecDepth 100000 in
theorem Pswept_calls (h : PlAt own z w pb D) (hmv : ∀ j, j < D.P.ts.length + 2 → D.P.swHow j = 1) (hend : D.P.swHow (D.P.ts.length + 2) = 3) :
    Calls Tryz.prog 45 #[pv pb] w fun r w' => r = .returned (.bool true) ∧ PlGoes own z w pb w' (SwN D (D.P.ts.length + 3)) := by
  have hT : (D.t : Int) ≤ 64 ∧ 0 ≤ D.t := by have := h.thr; have := h.fit.thr; omega
  obtain ⟨T, hTe⟩ : ∃ T, Hid (T = D.P.ts.length) := ⟨_, rfl⟩
  have hTt : Hid (D.t = T) := by show D.t = T; rw [hTe.out]; exact h.thr
  have hTb : T ≤ 64 := by have := hTt.out; omega
  have H := (show Hid (PlAt own z w pb D) from h)
  have HM := (show Hid (∀ j, j < T + 2 → D.P.swHow j = 1) from by rw [hTe.out]; exact hmv)
  have HE := (show Hid (D.P.swHow (T + 2) = 3) from by rw [hTe.out]; exact hend)
  have HQ : ∀ w', Hid (PlGoes own z w pb w' (SwN D (T + 3))) → PlGoes own z w pb w' (SwN D (D.P.ts.length + 3)) := by
    intro w' hq; rw [← hTe.out]; exact hq.out
  have HS := (show Hid (∀ j (own1 : Own) (w1 : World) (D1 : PlD), PlAt own1 z w1 pb D1 → Ext own own1 w → FrP own z w w1 → SwN D j D1 → Calls Tryz.prog 73 #[pv D1.L.s] w1 fun r w2 => r = .returned (.int .i64 (D.P.swHow j)) ∧ PlGoes own z w pb w2 (SwN D (j + 1))) from by
    intro j own1 w1 D1 h1 hE hF hS
    obtain ⟨L1, e1, rfl⟩ := hS
    refine (ZSweep_fit h1.st h1.fit).mono ?_
    rintro r w2 ⟨rfl, hG⟩
    have hf := (h1.fit.sweep h1.st.mem.nsmall).1
    obtain ⟨own2, L2, hP2, hE2, hF2, e2⟩ := h1.store hG hf (by rw [sweep_ts])
    exact ⟨rfl, PlGoes.trans hE hF ⟨own2, _, hP2, hE2, hF2, L2, e2.trans e1, rfl⟩⟩)
  clear h hmv hend hT hTe
  unfold pv at HS ⊢
  go_enter Tryz.func45, Tryz.ntmps45
  go_wp2
  go_loopw [3] (fun v wr => ∃ j : Nat, j ≤ T + 2 ∧ v = .int .i64 j ∧ Hid (PlGoes own z w pb wr (SwN D j))) (fun v _ => T + 3 - (intOf v).toNat)
  case atStart => exact ⟨0, by omega, rfl, own, D, H.out, Ext.refl _ _, Fr.refl _ _, D.L, rfl, rfl⟩
  case round =>
    clear H
    obtain ⟨j, hj, rfl, HG⟩ := hrel
    obtain ⟨own1, D1, hP, hE, hF, hI⟩ := HG.out
    have ha := hP.at_.cell
    have HC := (show Hid (PlAt own1 z wr pb D1 ∧ Ext own own1 w ∧ FrP own z w wr ∧ SwN D j D1) from ⟨hP, hE, hF, hI⟩)
    have ht : D1.t = T := by obtain ⟨L1, _, rfl⟩ := hI; exact hTt.out
    simp only [PlD.cells, ht, pv] at ha
    clear hP hE hF hI HG ht
    by_cases hlt : j < T + 2
    · have h1 := HM.out j hlt
      go_wp2_with fail
      refine (HS.out j own1 wr D1 HC.out.1 HC.out.2.1 HC.out.2.2.1 HC.out.2.2.2).mono ?_
      rw [h1]
      rintro r w2 ⟨rfl, hG2⟩
      have HG2 := (show Hid (PlGoes own z w pb w2 (SwN D (j + 1))) from hG2)
      clear hG2 h1
      go_wp2
      go_roundw
      case rel => exact ⟨j + 1, by omega, by go_num, HG2⟩
      case measure => simp [intOf]; omega
    · have hjm : Hid (j = T + 2) := by show j = T + 2; omega
      have h1 : D.P.swHow j = 3 := by rw [hjm.out]; exact HE.out
      go_wp2_with fail
      refine (HS.out j own1 wr D1 HC.out.1 HC.out.2.1 HC.out.2.2.1 HC.out.2.2.2).mono ?_
      rw [h1]
      rintro r w2 ⟨rfl, hG2⟩
      have HG2 := (show Hid (PlGoes own z w pb w2 (SwN D (T + 3))) from by rw [← show j + 1 = T + 3 by rw [hjm.out]]; exact hG2)
      clear hG2 h1
      go_wp2
      go_ret
      exact ⟨rfl, HQ _ HG2⟩
end
end Go.Proofs.YtfccelbmacjifaaGreat

set_option linter.unusedSimpArgs false
namespace Go.Proofs.YtfccelbmacjifaaGreat
/-! ### What plain pairs answer -/
def spendN (k kind : Int) : Int := if kind = 1 then 1 + k else 0
def spendE (k kind : Int) : Int := if kind = 1 then 2 + k else 1
def spendErr (k lim kind n e c : Int) : Int := if n < spendN k kind ∨ e < spendE k kind then 7 else if c = lim then 8 else 0
def shVal (ps : List (Int × Int)) (key : Int) : Int × Bool := match ps.find? (fun p => p.1 == key) with
  | some p => (p.2, true)
  | none => (0, false)
def shSide (key : Int) (below : Bool) (p : Int × Int) : Bool := if below then decide (p.1 < key) else decide (key < p.1)
theorem shVal_hit {ps : List (Int × Int)} {key : Int} {j : Nat} {x : Int × Int} (h : ∀ p ∈ ps.take j, p.1 ≠ key) (hx : ps[j]? = some x) (hk : x.1 = key) : shVal ps key = (x.2, true) := by
  have hj := (List.getElem?_eq_some_iff.1 hx).1
  have he : ps = ps.take j ++ x :: ps.drop (j + 1) := by
    rw [← (List.getElem?_eq_some_iff.1 hx).2, List.getElem_cons_drop, List.take_append_drop]
  unfold shVal
  rw [he, List.find?_append, List.find?_eq_none.2 (fun p hp => by simpa using h p hp)]
  simp [hk]
theorem shVal_miss {ps : List (Int × Int)} {key : Int} (h : ∀ p ∈ ps, p.1 ≠ key) : shVal ps key = (0, false) := by
  unfold shVal
  rw [List.find?_eq_none.2 (fun p hp => by simpa using h p hp)]
def shLo (ps : List (Int × Int)) (key : Int) : List (Int × Int) := ps.filter (shSide key true)
def shHi (ps : List (Int × Int)) (key : Int) : List (Int × Int) := ps.filter (shSide key false)
def shPut (ps : List (Int × Int)) (key value : Int) : List (Int × Int) := shLo ps key ++ [(key, value)] ++ shHi ps key
def shDel (ps : List (Int × Int)) (key : Int) : List (Int × Int) := shLo ps key ++ shHi ps key
def shUpd (ps : List (Int × Int)) (kind key : Int) : Bool := (kind == 1 && !(shVal ps key).2) || (kind == 2 && (shVal ps key).2)
def shAns (ps : List (Int × Int)) (kind key : Int) (spans : List (Int × Int)) : BAns :=
  if kind = 4 then answerOf spans ps 0
  else if kind = 3 then { did := (shVal ps key).2, value := (shVal ps key).1 }
  else if shUpd ps kind key then { did := true, value := if kind = 2 then (shVal ps key).1 else 0 }
  else {}
def shNew (ps : List (Int × Int)) (kind key value : Int) : List (Int × Int) :=
  if shUpd ps kind key then (if kind = 1 then shPut ps key value else shDel ps key) else ps
def wantOf (k lim n e c : Int) (ps : List (Int × Int)) (kind key : Int) (spans : List (Int × Int)) : BAns :=
  if shUpd ps kind key then
    (if spendErr k lim kind n e c = 0 then { shAns ps kind key spans with stamp := c + 1 } else { err := spendErr k lim kind n e c })
  else if (shAns ps kind key spans).err = 0 then { shAns ps kind key spans with stamp := c } else shAns ps kind key spans
def doneOf (k lim n e c : Int) (ps : List (Int × Int)) (kind key : Int) : Bool := shUpd ps kind key && decide (spendErr k lim kind n e c = 0)
/-- What plain data must keep, that one operation at a time answers as plain pairs do. -/
structure Quiets (T N E L : Int) (Q : PSt → List (Int × Int) → Int → Int → Int → Prop) : Prop where
  fresh : Q (freshP 0 T N E L) [] N (E - 1) 0
  room : ∀ {P ps n e c}, Q P ps n e c → P.mem.room.1 = n ∧ P.mem.room.2 = e ∧ P.clock = c ∧ (0 ≤ n ∧ n ≤ 64) ∧ (0 ≤ e ∧ e ≤ 256) ∧ (0 ≤ c ∧ c ≤ 2 ^ 41) ∧ ps.length ≤ 64
  idle : ∀ {P ps n e c}, Q P ps n e c → ∀ t ∈ P.ts, t.busy = false
  op : ∀ {P ps n e c} {i : Nat} {t : PThread} (kd ky va : Int) (sp : List (Int × Int)), Q P ps n e c → P.ts[i]? = some t → properB kd ky sp = true →
    ∃ m : Nat, (m : Int) < N + 16 ∧ (∀ j, j < m → (P.setT i { t with busy := true, work := newWork kd ky va sp }).how i j = 1) ∧ (P.setT i { t with busy := true, work := newWork kd ky va sp }).how i m = 3 ∧
      (((P.setT i { t with busy := true, work := newWork kd ky va sp }).iter i m).th i).work.ans = wantOf 0 L n e c ps kd ky sp ∧
      Q ((P.setT i { t with busy := true, work := newWork kd ky va sp }).iter i (m + 1)) (if doneOf 0 L n e c ps kd ky then shNew ps kd ky va else ps) (if doneOf 0 L n e c ps kd ky then n - spendN 0 kd else n) (if doneOf 0 L n e c ps kd ky then e - spendE 0 kd else e) (if doneOf 0 L n e c ps kd ky then c + 1 else c)
  sweep : ∀ {P ps n e c}, Q P ps n e c → (∀ j, j < P.ts.length + 2 → P.swHow j = 1) ∧ P.swHow (P.ts.length + 2) = 3 ∧ Q (P.swIter (P.ts.length + 3)) ps (N - ps.length) (E - ps.length - 1) c
def own00 : Own := fun _ => ⟨0, .store⟩
end Go.Proofs.YtfccelbmacjifaaGreat

set_option linter.unusedSimpArgs false
namespace Go.Proofs.YtfccelbmacjifaaGreat
/-! ### One operation alone: plain data -/
/-- m steps of thread i, each of which moved. -/
def Run (P : PSt) (i m : Nat) (P' : PSt) : Prop := P' = P.iter i m ∧ ∀ j, j < m → P.how i j = 1
theorem iter_add (P : PSt) (i m : Nat) : ∀ j, P.iter i (m + j) = (P.iter i m).iter i j
  | 0 => rfl
  | j + 1 => by
    show ((P.iter i (m + j)).step i ((P.iter i (m + j)).th i)).1 = (((P.iter i m).iter i j).step i (((P.iter i m).iter i j).th i)).1
    rw [iter_add P i m j]
theorem how_add (P : PSt) (i m j : Nat) : P.how i (m + j) = (P.iter i m).how i j := by
  unfold PSt.how; rw [iter_add]
theorem Run.zero (P : PSt) (i : Nat) : Run P i 0 P := ⟨rfl, by omega⟩
theorem Run.trans {P P1 P2 : PSt} {i m m' : Nat} (h : Run P i m P1) (k : Run P1 i m' P2) : Run P i (m + m') P2 := by
  obtain ⟨rfl, h2⟩ := h
  obtain ⟨rfl, k2⟩ := k
  refine ⟨by rw [iter_add], ?_⟩
  intro j hj
  by_cases hlt : j < m
  · exact h2 j hlt
  · have := k2 (j - m) (by omega)
    rw [← how_add] at this
    rw [show j = m + (j - m) by omega]; exact this
theorem Run.one {P P' : PSt} {i : Nat} (h : P.step i (P.th i) = (P', 1)) : Run P i 1 P' := by
  refine ⟨by show P' = (P.step i (P.th i)).1; rw [h], ?_⟩
  intro j hj
  obtain rfl : j = 0 := by omega
  show (P.step i (P.th i)).2 = 1
  rw [h]
/-- The store while thread i has its work k under way. -/
def st (P : PSt) (i : Nat) (t : PThread) (M : PMem) (c : Int) (sl : Int) (k : PWork) : PSt := { P with mem := M, clock := c, ts := P.ts.set i { t with busy := true, slot := sl, work := k } }
section
variable {P : PSt} {i : Nat} {t : PThread} {M : PMem} {c sl : Int} {k : PWork}
theorem st_th (hi : i < P.ts.length) : (st P i t M c sl k).th i = { t with busy := true, slot := sl, work := k } := by
  simp [st, PSt.th, hi]
theorem st_setW (hi : i < P.ts.length) (k' : PWork) : (st P i t M c sl k).setW i k' = st P i t M c sl k' := by
  simp only [st, PSt.setW]
  congr 1
  apply List.ext_getElem?
  intro j
  by_cases hj : j = i
  · subst hj; simp [hi]
  · rw [List.getElem?_modify, List.getElem?_set_ne (Ne.symm hj), List.getElem?_set_ne (Ne.symm hj)]
    simp [Ne.symm hj]
theorem st_setM (M' : PMem) : (st P i t M c sl k).setM M' = st P i t M' c sl k := rfl
theorem st_setT (_hi : i < P.ts.length) (t' : PThread) : (st P i t M c sl k).setT i t' = { P with mem := M, clock := c, ts := P.ts.set i t' } := by
  simp [st, PSt.setT]
theorem st_begin (hb : t.slot = 0) (_hi : i < P.ts.length) (k : PWork) : P.setT i { t with busy := true, work := k } = st P i t P.mem P.clock 0 k := by
  unfold PSt.setT st
  rw [show ({ t with busy := true, work := k } : PThread) = { t with busy := true, slot := 0, work := k } by rw [← hb]]
/-- The first three steps: announced, and its time read. -/
theorem run_open (hi : i < P.ts.length) (h1 : k.next = 1) : Run (st P i t M c sl k) i 3 (st P i t M c 2 { k with time := c, stand := 0, next := 4 }) := by
  have e1 : Run (st P i t M c sl k) i 1 (st P i t M c 1 { k with next := 2 }) := by
    refine Run.one ?_
    rw [st_th hi]
    unfold PSt.step
    simp only [h1]
    rw [st_setT hi]; rfl
  have e2 : Run (st P i t M c 1 { k with next := 2 }) i 1 (st P i t M c 1 { k with time := c, next := 3 }) := by
    refine Run.one ?_
    rw [st_th hi]
    unfold PSt.step
    simp only
    rw [st_setT hi]; rfl
  have e3 : Run (st P i t M c 1 { k with time := c, next := 3 }) i 1 (st P i t M c 2 { k with time := c, stand := 0, next := 4 }) := by
    refine Run.one ?_
    rw [st_th hi]
    unfold PSt.step
    simp only
    rw [st_setT hi]; rfl
  exact (e1.trans e2).trans e3
/-- A step of an update. -/
theorem run_upd (hi : i < P.ts.length) (hk : k.kind = 1 ∨ k.kind = 2) (hn : 4 ≤ k.next ∧ k.next ≤ 12) {P' : PSt} (h : (st P i t M c sl k).update i k = (P', 1)) : Run (st P i t M c sl k) i 1 P' := by
  refine Run.one ?_
  rw [st_th hi]
  have h3 : ¬ (k.kind = 3 ∨ k.kind = 4) := by omega
  unfold PSt.step
  split <;> first | (rename_i hh; simp only at hh; omega) | skip
  rw [if_neg h3]; exact h
/-- The end. -/
theorem how_end (hi : i < P.ts.length) (hn : k.next = 13) : (st P i t M c sl k).how i 0 = 3 ∧ (st P i t M c sl k).iter i 1 = { P with mem := M, clock := c, ts := P.ts.set i { t with busy := false, slot := 0, last := k.ans, hasEnded := true, work := PWork.zero } } := by
  have hs : (st P i t M c sl k).step i ((st P i t M c sl k).th i) = ({ P with mem := M, clock := c, ts := P.ts.set i { t with busy := false, slot := 0, last := k.ans, hasEnded := true, work := PWork.zero } }, 3) := by
    rw [st_th hi]
    unfold PSt.step
    simp only [hn]
    rw [st_setT hi]; rfl
  exact ⟨by show ((st P i t M c sl k).step i ((st P i t M c sl k).th i)).2 = 3; rw [hs], by show ((st P i t M c sl k).step i ((st P i t M c sl k).th i)).1 = _; rw [hs]⟩
end
end Go.Proofs.YtfccelbmacjifaaGreat

