import Derived.Test.YtfccelbmacjifaaGreatP25
import Derived.Test.YtfccelbmacjifaaGreatRows
import Derived.Test.YtfccelbmacjifaaGreatP10
import Derived.ProofKit
import Derived.Lib.SmallJoins
import Derived.OpenShut
import Derived.ChangeOld
import Derived.JoinedCond
set_option linter.unusedSimpArgs false
namespace Go.Proofs.YtfccelbmacjifaaGreat
open Go.RowKit
section
variable {J : Own → World → Nat → Nat → Nat → Prop} {ok : Int → Prop} {w0 : Root} {w w' : World} {wb x y N G : Nat} {k t n e l : Int}
set_option maxHeartbeats 1000000 in
set_option maxRecDepth 100000 in
theorem begins_calls (S : Sides J ok) (h : LawAt J w0 w wb k t n e l N G) (hG : G ≤ 2 ^ 21) (a : ActD) (hps : Spans w a.sa a.sn a.ps) (hsn : a.sn ≤ 2 ^ 20) (hok : ok a.o) :
    Calls Tryz.prog 28 #[pv wb, actVal a] w fun r w' => r = .returned (.bool true) ∧ LawAt J w0 w' wb k t n e l N (G + 1) := by
  obtain ⟨own, x, y, gv, gs, hJ, hC, hG', ho, hF⟩ := h
  obtain ⟨kd, tt, o, ky, v, m, sa, sn, sc, ps⟩ := a
  simp only at hps hsn hok
  have HOK := (show Hid (ok o) from hok)
  obtain ⟨zs, hzl, hmk⟩ := make_pairs sn hsn
  obtain ⟨iG, hiG, hzG, hsG, hbG⟩ := info_parts Tryz.infoGiven
  have HC := (show Hid (CAt _ _ _ _ _ _ _ _ _ _ _ _) from hC)
  have HJ := (show Hid (J _ _ _ _ _) from hJ)
  have HO := (show Hid (∀ j, _ → _) from ho)
  have HF := (show Hid (Fr _ _ _) from hF)
  have HSd := (show Hid (Sides J ok) from S)
  have HP := (show Hid (Spans _ _ _ _) from hps)
  have HZ := (show Hid (zs.length = sn + 2) from hzl)
  have hw := hC.at_.cell
  have hwl := hC.at_.lt
  simp only [wcells, pv] at hw
  clear hC hJ ho hF S hps hzl hok
  simp only [actVal]
  unfold pv
  go_enter Tryz.func28, Tryz.ntmps28
  go_wp2_with (refine wpList_copy2 rfl _ _ 32 32 rfl 138 Tryz.underlying32 Tryz.sizeSpan sa (w.heap.size + 1) (sn + 2) (sn + 2) sn sc rfl rfl zs 138 HZ.out (At.newPairsAt (by simp) zs _) ps (HP.out.calm (((Fr.refl _ _).alloc _).alloc _)) (by omega) ?_)
  intro fs w1 HA1 HF1
  have HFL := (show Hid (fs.length = sn + 2) from HA1.out.1)
  have HA := (show Hid (At w1 _ _ _) from HA1.out.2)
  obtain ⟨u1, u2, f1, f2⟩ := HA.out.pairSome (i := sn) (by rw [HFL.out]; omega)
  obtain ⟨u3, u4, f3, f4⟩ := HA.out.pairSome (i := sn + 1) (by rw [HFL.out]; omega)
  have fz := HA.out.frozen
  have HBX := (show Hid (At w1 w.heap.size [.int .i64 kd, .int .i64 tt, .int .i64 o, .int .i64 ky, .int .i64 v, .int .i64 m, .slice sa sn sc] 34) from HF1.out.at ((At.new w [.int .i64 kd, .int .i64 tt, .int .i64 o, .int .i64 ky, .int .i64 v, .int .i64 m, .slice sa sn sc] _).alloc _) (by show ¬ (_ = _); omega))
  have HFa := (show Hid (Fr (fun _ => False) w w1) from (((Fr.refl _ _).alloc _).alloc _).trans' HF1.out (by omega))
  have hlt := HA.out.lt
  have hbx := HBX.out.cell
  clear HA1 HF1 hw
  obtain ⟨g1, hg1⟩ : ∃ g1, g1 = w.heap.size + 1 := ⟨_, rfl⟩
  rw [← hg1] at f1 f2 f3 f4 fz HA hlt ⊢
  have HG1 := (show Hid (g1 = w.heap.size + 1) from hg1)
  clear hg1
  obtain ⟨fs2, hl2, hA2⟩ : ∃ fs2 : List (Int × Int), fs2.length = sn + 2 ∧ At ((((w1.setCell ⟨g1, sn * 2, none⟩ (.int .i64 1)).setCell ⟨g1, sn * 2 + 1, none⟩ (.int .i64 2)).setCell ⟨g1, (sn + 1) * 2, none⟩ (.int .i64 3)).setCell ⟨g1, (sn + 1) * 2 + 1, none⟩ (.int .i64 4)) g1 (fs2.flatMap pairCells) 138 :=
    ⟨_, by simpa using HFL.out, (HA.out.setPair (i := sn) (by rw [HFL.out]; omega) 1 2).setPair (i := sn + 1) (by rw [List.length_set, HFL.out]; omega) 3 4⟩
  have HL2 := (show Hid (fs2.length = sn + 2) from hl2)
  have HA2 := (show Hid (At _ g1 (fs2.flatMap pairCells) _) from hA2)
  clear hl2 hA2
  obtain ⟨w2, hrun, hW2, hF2⟩ := copy2_run (P := Tryz.prog) _ 32 32 3 138 Tryz.underlying32 Tryz.sizeSpan w1.heap.size (sn + 2) (sn + 2) (sn + 2) (by omega) (some ⟨g1, 0, none⟩) zs 138 HZ.out (At.newPairsAt (by simp) zs _) fs2 ((HA2.out.alloc (.cells (pairRow zs) 138)).spans HL2.out)
  have HW2 := (show Hid (At w2 _ _ _) from hW2)
  have HF2 := (show Hid (Fr _ _ w2) from hF2)
  clear hW2 hF2
  have HFb := (show Hid (Fr (fun k => k = g1) w1 _) from (((((Fr.refl _ _).set1 (sn * 2) (.int .i64 1)).set1 (sn * 2 + 1) (.int .i64 2)).set1 ((sn + 1) * 2) (.int .i64 3)).set1 ((sn + 1) * 2 + 1) (.int .i64 4)).alloc (.cells (pairRow zs) 138))
  have HG := (show Hid (At w2 g1 (fs2.flatMap pairCells) 138) from HF2.out.at (HA2.out.alloc _) (by show ¬ (_ = _); omega))
  have HBY := (show Hid (At w2 w.heap.size _ 34) from HF2.out.at (HFb.out.at HBX.out (by show ¬ (_ = _); rw [HG1.out]; omega)) (by show ¬ (_ = _); have := HFa.out.size; have := HBX.out.lt; omega))
  have HFc := (show Hid (Fr (fun _ => False) w w2) from (HFa.out.transNew HFb.out (fun i hi => .inr (by rw [hi, HG1.out]; omega))).transNew HF2.out (fun i hi => .inr (by rw [hi]; exact HFa.out.size)))
  have hs12 : w1.heap.size < w2.heap.size := HW2.out.lt
  obtain ⟨g2, hg2⟩ : ∃ g2, g2 = w1.heap.size := ⟨_, rfl⟩
  rw [← hg2] at HW2 hs12
  have HG2 := (show Hid (w.heap.size + 1 < g2 ∧ g2 < w2.heap.size) from ⟨by rw [hg2, ← HG1.out]; exact hlt, hs12⟩)
  have hby := HBY.out.cell
  have hwc := (HC.out.fr HFc.out (Ext.refl _ _) (fun _ _ h => h.elim)).at_.cell
  simp only [wcells, pv] at hwc
  obtain ⟨own1, hE1, p1, p2, p3, p4⟩ := begins_own (own := own) (w := w) (w2 := w2) (g1 := g1) (g2 := g2) (by rw [HG1.out]; omega) (by rw [HG1.out]; exact HG2.out.1) HG2.out.2
  have HE1 := (show Hid (Ext own own1 w) from hE1)
  have HP1 := (show Hid (own1 g1 = _ ∧ own1 g2 = _ ∧ own1 w.heap.size = _ ∧ own1 w2.heap.size = _) from ⟨p1, p2, p3, p4⟩)
  clear hE1 p1 p2 p3 p4
  clear HF2 HFb HA2 HBX HFa HA HFL hs12 HZ
  by_cases hpos : 0 < sn
  all_goals
    go_wp2_with fail
    clear f1 f2 f3 f4 fz hbx hmk hrun
    generalize hw3 : w2.alloc _ = w3
    obtain ⟨oa, on, oc, hA3, hF3⟩ : ∃ oa on oc, At w3 w2.heap.size [.int .i64 o, .int .i64 ky, .int .i64 v, .slice oa on oc] 82 ∧ Fr (fun _ => False) w2 w3 := by
      subst hw3; exact ⟨_, _, _, At.new w2 [_, _, _, .slice _ _ _] _, (Fr.refl _ _).alloc _⟩
    have HF3 := (show Hid (Fr (fun _ => False) w2 w3) from hF3)
    have HLT3 := (show Hid (w2.heap.size < w3.heap.size) from hA3.lt)
    have HFd := (show Hid (Fr (fun _ => False) w w3) from HFc.out.trans hF3)
    have hJ3 : J own1 w3 x y N := HSd.out.fr HJ.out HFd.out HE1.out (fun _ _ h => h.elim)
    have HC3 := (show Hid (CAt own1 w3 wb x y k t n e l gv gs) from HC.out.fr HFd.out HE1.out (fun _ _ h => h.elim))
    obtain ⟨er, hbg⟩ := HSd.out.begin_ hJ3 tt o ky v HOK.out
    have HB := (show Hid (∀ w0, _) from hbg)
    have hee : (er == er) = true := by simp
    have HK : Hid (∀ u, Fr (fun k => (own1 k).z ≤ 1) w3 u → At u wb (wcells x y k t n e l gv) 51 ∧ At u w.heap.size [.int .i64 kd, .int .i64 tt, .int .i64 o, .int .i64 ky, .int .i64 v, .int .i64 m, .slice sa sn sc] 34 ∧
        At u g1 (fs2.flatMap pairCells) 138 ∧ At u g2 (fs2.flatMap pairCells) 138 ∧ At u w2.heap.size [.int .i64 o, .int .i64 ky, .int .i64 v, .slice oa on oc] 82) := by
      obtain ⟨p1, p2, p3, p4⟩ := HP1.out
      intro u hu
      refine ⟨hu.at HC3.out.at_ (by rw [HC3.out.tg]; decide), hu.at (hF3.at HBY.out (fun h => h)) (by rw [p3]; decide), hu.at (hF3.at HG.out (fun h => h)) (by rw [p1]; decide), hu.at (hF3.at HW2.out (fun h => h)) (by rw [p2]; decide), hu.at hA3 (by rw [p4]; decide)⟩
    clear hw3 hF3 hA3 hJ3 hbg hby hwc HG HW2 HBY HJ
    refine wp_region_last 7 (fun k => (own1 k).z ≤ 1) (fun w' => ∃ w3', Fr (fun _ => False) w3 w3' ∧ Then own1 w3' w' 67 #[pv y, .int .i64 tt, opVal o ky v (.slice sa sn sc)] (.int .i64 er) (fun own2 w2 => J own2 w2 x y N))
      (fun w' ⟨w3', h1, h2⟩ => (h1.mono (fun _ _ h => h.elim)).trans h2.1) (by kernel_rfl) (by kernel_rfl) (by kernel_rfl) (by kernel_rfl) (by decide) ?_
    intro U W hU hW
    have hau : ∀ u o, (W u).cell? ⟨wb, o, none⟩ = (wcells x y k t n e l gv)[o]? := fun u => (HK.out _ (hW u)).1.cell
    have hbu : ∀ u j, (W u).cell? ⟨w.heap.size, j, none⟩ = [Value.int .i64 kd, .int .i64 tt, .int .i64 o, .int .i64 ky, .int .i64 v, .int .i64 m, .slice sa sn sc][j]? := fun u => (HK.out _ (hW u)).2.1.cell
    have hou : ∀ u j, (W u).cell? ⟨w2.heap.size, j, none⟩ = [Value.int .i64 o, .int .i64 ky, .int .i64 v, .slice oa on oc][j]? := fun u => (HK.out _ (hW u)).2.2.2.2.cell
    simp only [wcells, pv] at hau
    clear hW
    repeat (refine mix_read rfl rfl ?_; go_big_quiet_step (fail); refine wpQuiet_nil ?_)
    refine mix_effC (.int .i64 er) rfl rfl rfl ?_ ?_
    · intro w' hw'
      have hw0 := hw'.1 rfl
      go_simp
      refine (HB.out w' hw0 oa on oc (.slice sa sn sc)).mono ?_
      rintro e w'' ⟨rfl, hT⟩
      exact ⟨rfl, w', hw0, hT⟩
    go_simp
    repeat (refine mix_read rfl rfl ?_; go_big_quiet_step (fail); refine wpQuiet_nil ?_)
    refine mix_nil ?_
    intro w4 w3' hcalm hThen
    have HF4 := (show Hid (Fr (fun k => (own1 k).z ≤ 1) w3 w4) from (hcalm.mono (fun _ _ h => h.elim)).trans hThen.1)
    have HT := (show Hid (∀ (w1' : World) (S : Nat → Prop), _) from hThen.2)
    have HS3 := (show Hid (w3.heap.size ≤ w3'.heap.size) from hcalm.size)
    obtain ⟨k1, k2, k3, k4, k5⟩ := HK.out _ HF4.out
    have K1 := (show Hid (At w4 wb _ _) from k1)
    have K2 := (show Hid (At w4 _ _ 34) from k2)
    have K3 := (show Hid (At w4 _ _ _) from k3)
    have K4 := (show Hid (At w4 _ _ _) from k4)
    have K5 := (show Hid (At w4 _ _ 82) from k5)
    have HSW := (show Hid (w.heap.size < g1 ∧ g1 < g2 ∧ g2 < w2.heap.size ∧ w2.heap.size < w3.heap.size) from ⟨by rw [HG1.out]; omega, by rw [HG1.out]; exact HG2.out.1, HG2.out.2, HLT3.out⟩)
    clear hcalm hThen hau hbu hou k1 k2 k3 k4 k5 HB HK hlt
    subst hg2
    go_wp2_with fail
    refine (sameSpans_calls w4 _ _ (sn + 2) (sn + 2) (sn + 2) fs2 HL2.out K3.out.asPairs K4.out.asPairs (by omega)).mono ?_
    rintro r w5 ⟨rfl, hF5⟩
    have HF5 := (show Hid (Fr (fun _ => False) w4 w5) from hF5)
    have hb5 := (hF5.at K2.out (fun h => h)).cell
    have K55 := (show Hid (At w5 _ _ 82) from hF5.at K5.out (fun h => h))
    have ho5 := K55.out.cell
    have hz5 := K55.out.frozen
    clear hF5
    go_wp2_with fail
    generalize hw6 : w5.setCell _ _ = w6
    have hA6 : At w6 w2.heap.size [.int .i64 o, .int .i64 ky, .int .i64 v, .slice sa sn sc] 82 := by
      subst hw6; exact K55.out.set 3 _
    have HF6 := (show Hid (Fr (fun k => k = w2.heap.size) w4 w6) from by subst hw6; exact (HF5.out.mono (fun _ _ h => h.elim)).set1 3 _)
    obtain ⟨p1, p2, p3, p4⟩ := HP1.out
    obtain ⟨s1, s2, s3, s4⟩ := HSW.out
    have s5 := HS3.out
    have HK6 : Hid (∀ u, Fr (fun k => (own1 k).z ≤ 1 ∨ w3'.heap.size ≤ k) w6 u → At u wb (wcells x y k t n e l gv) 51 ∧ At u w.heap.size [.int .i64 kd, .int .i64 tt, .int .i64 o, .int .i64 ky, .int .i64 v, .int .i64 m, .slice sa sn sc] 34 ∧
        At u g1 (fs2.flatMap pairCells) 138 ∧ At u w1.heap.size (fs2.flatMap pairCells) 138 ∧ At u w2.heap.size [.int .i64 o, .int .i64 ky, .int .i64 v, .slice sa sn sc] 82) := by
      intro u hu
      have ow : own1 wb = ⟨2, .store⟩ := HC3.out.tg
      refine ⟨hu.at (HF6.out.at K1.out (by show ¬ (_ = _); omega)) ?_, hu.at (HF6.out.at K2.out (by show ¬ (_ = _); omega)) ?_, hu.at (HF6.out.at K3.out (by show ¬ (_ = _); omega)) ?_, hu.at (HF6.out.at K4.out (by show ¬ (_ = _); omega)) ?_, hu.at hA6 ?_⟩
      · rw [ow]; exact not_or.2 ⟨by decide, by omega⟩
      · rw [p3]; exact not_or.2 ⟨by decide, by omega⟩
      · rw [p1]; exact not_or.2 ⟨by decide, by omega⟩
      · rw [p2]; exact not_or.2 ⟨by decide, by omega⟩
      · rw [p4]; exact not_or.2 ⟨by decide, by omega⟩
    have HBT := (show Hid (w2.heap.size < w3'.heap.size ∧ 2 ≤ (own1 w2.heap.size).z) from ⟨by omega, by rw [p4]; decide⟩)
    clear hw6 hA6 hb5 ho5 hz5 p1 p2 p3 p4 s1 s2 s3 s4 s5 K1 K2 K3 K4 K5 K55 HF5
    refine wp_region_last 7 (fun k => (own1 k).z ≤ 1 ∨ w3'.heap.size ≤ k) (fun w' => ∃ w6', Fr (fun _ => False) w6 w6' ∧ Fr (fun k => (own1 k).z ≤ 1 ∨ w3'.heap.size ≤ k) w6' w' ∧ ∃ own2, Ext own1 own2 w3' ∧ J own2 w' x y N)
      (fun w' ⟨w6', h1, h2, _⟩ => (h1.mono (fun _ _ h => h.elim)).trans h2) (by kernel_rfl) (by kernel_rfl) (by kernel_rfl) (by kernel_rfl) (by decide) ?_
    intro U W hU hW
    have hau : ∀ u o, (W u).cell? ⟨wb, o, none⟩ = (wcells x y k t n e l gv)[o]? := fun u => (HK6.out _ (hW u)).1.cell
    have hbu : ∀ u j, (W u).cell? ⟨w.heap.size, j, none⟩ = [Value.int .i64 kd, .int .i64 tt, .int .i64 o, .int .i64 ky, .int .i64 v, .int .i64 m, .slice sa sn sc][j]? := fun u => (HK6.out _ (hW u)).2.1.cell
    have hou : ∀ u j, (W u).cell? ⟨w2.heap.size, j, none⟩ = [Value.int .i64 o, .int .i64 ky, .int .i64 v, .slice sa sn sc][j]? := fun u => (HK6.out _ (hW u)).2.2.2.2.cell
    simp only [wcells, pv] at hau
    clear hW
    repeat (refine mix_read rfl rfl ?_; go_big_quiet_step (fail); refine wpQuiet_nil ?_)
    refine mix_effC (.int .i64 er) rfl rfl rfl ?_ ?_
    · intro w' hw'
      have hw0 := hw'.1 rfl
      go_simp
      refine (HT.out w' (fun k => k = w2.heap.size) (HF6.out.trans (hw0.mono (fun _ _ h => h.elim))) (fun k hk => by rw [hk]; exact HBT.out)).mono ?_
      rintro e w'' ⟨rfl, h1, own2, h2, h3⟩
      exact ⟨rfl, w', hw0, h1, own2, h2, h3⟩
    go_simp
    repeat (refine mix_read rfl rfl ?_; go_big_quiet_step (fail); refine wpQuiet_nil ?_)
    refine mix_nil ?_
    intro w7 w6' hc6 hF7 own2 hE2 hJ7
    have HF7 := (show Hid (Fr (fun k => (own1 k).z ≤ 1 ∨ w3'.heap.size ≤ k) w6 w7) from (hc6.mono (fun _ _ h => h.elim)).trans hF7)
    have HE2 := (show Hid (Ext own1 own2 w3') from hE2)
    have HJ7 := (show Hid (J own2 w7 x y N) from hJ7)
    obtain ⟨k1, k2, k3, k4, k5⟩ := HK6.out _ HF7.out
    have K1 := (show Hid (At w7 wb _ _) from k1)
    have K3 := (show Hid (At w7 _ _ _) from k3)
    have K4 := (show Hid (At w7 _ _ _) from k4)
    have HFw := (show Hid (Fr (fun k => (own k).z ≤ 1) w w7) from by
      have h1 : Fr (fun k => (own k).z ≤ 1) w w4 := (HFd.out.mono (fun _ _ h => h.elim)).transNew HF4.out (fun i hi => by
        by_cases hlt : i < w.heap.size
        · left; rw [← HE1.out i hlt]; exact hi
        · right; omega)
      refine (h1.transNew HF6.out (fun i hi => .inr (by rw [hi]; exact HFc.out.size))).transNew HF7.out (fun i hi => ?_)
      have h3 := HFd.out.size
      have h4 := HS3.out
      by_cases hlt : i < w.heap.size
      · left; rcases hi with hi | hi
        · rw [← HE1.out i hlt]; exact hi
        · omega
      · right; omega)
    have HSZ := (show Hid (w.heap.size < w3'.heap.size ∧ w2.heap.size < w3'.heap.size) from by
      obtain ⟨s1, s2, s3, s4⟩ := HSW.out
      have s5 := HS3.out
      exact ⟨by omega, by omega⟩)
    clear hc6 hF7 hE2 hJ7 k1 k2 k3 k4 k5 HK6 HT HF6 HF4 HF7 hau hbu hou HF3 HFc HFd HBT HC3 HG1 HG2 HLT3 HP
    go_wp2_with fail
    go_loopw [12] (fun a wr => ∃ j : Nat, j ≤ sn + 2 ∧ a = .int .i64 j ∧ ∃ hs : List (Int × Int), Hid (hs.length = sn + 2 ∧ At wr g1 (hs.flatMap pairCells) 138 ∧ At wr w1.heap.size (hs.flatMap pairCells) 138 ∧ Fr (fun k => k = g1 ∨ k = w1.heap.size) w7 wr)) (fun a _ => sn + 2 - (intOf a).toNat)
    case atStart => exact ⟨0, by omega, rfl, fs2, HL2.out, K3.out, K4.out, Fr.refl _ _⟩
    case round =>
      obtain ⟨j, hj, rfl, hs, HI⟩ := hrel
      have hgg : g1 < w1.heap.size := HSW.out.2.1
      have hl1 := HI.out.2.1.lt
      have hl2 := HI.out.2.2.1.lt
      by_cases hlt : j < sn + 2
      · obtain ⟨u1, u2, f1, f2⟩ := HI.out.2.1.pairSome (i := j) (by rw [HI.out.1]; omega)
        obtain ⟨u3, u4, f3, f4⟩ := HI.out.2.2.1.pairSome (i := j) (by rw [HI.out.1]; omega)
        have fz := HI.out.2.1.frozen
        have fz2 := HI.out.2.2.1.frozen
        go_wp2
        go_roundw
        case rel =>
          have hjl : j < hs.length := by rw [HI.out.1]; omega
          exact ⟨j + 1, by omega, by go_num, hs.set j (5, 4 - (j : Int)), by simpa using HI.out.1, ((HI.out.2.1.setPair hjl 5 (4 - (j : Int))).setOther _ (by show g1 ≠ w1.heap.size; omega) _).setOther _ (by show g1 ≠ w1.heap.size; omega) _,
            ((HI.out.2.2.1.setOther _ (by show w1.heap.size ≠ g1; omega) _).setOther _ (by show w1.heap.size ≠ g1; omega) _).setPair hjl 5 (4 - (j : Int)), (((HI.out.2.2.2.setIn (.inl rfl) _ _).setIn (.inl rfl) _ _).setIn (.inr rfl) _ _).setIn (.inr rfl) _ _⟩
        case measure => simp [intOf]; omega
      · have HW8 := (show Hid (At wr wb (wcells x y k t n e l gv) 51) from HI.out.2.2.2.at K1.out (by have := HSW.out.1; exact not_or.2 ⟨by omega, by omega⟩))
        have hc8 := HW8.out.cell
        simp only [wcells, pv] at hc8
        have HR8 := (show Hid (wr.ownsRow 0 66 2 gv gs.length (gs.flatMap givCells)) from HI.out.2.2.2.owns (HFw.out.owns HC.out.row.row (fun b hb => by rw [HC.out.row.tg b hb]; decide)) (fun b hb => by have h1 := ownsRow_lt HC.out.row.row hb; have h2 := HSW.out.1; exact not_or.2 ⟨by omega, by omega⟩))
        go_wp2_with (at_builtin; refine wpList_push _ rfl _ _ 49 rfl 0 66 iG _ 2 48 Tryz.underlying49 hiG hzG hsG hbG rfl (by decide) gv gs.length (gs.flatMap givCells) rfl (ownsRow_alloc HR8.out _) wr.heap.size [.slice (some ⟨g1, 0, none⟩) (sn + 2) (sn + 2), .slice (some ⟨w1.heap.size, 0, none⟩) (sn + 2) (sn + 2)] rfl rfl 66 (At.newAt (by simp) _ _) (by simp [Value.oneCell']) (by unfold maxLen; omega) (by omega) (by simp) ?_)
        intro g cap w9 hown hgr hge
        have HW9 := (show Hid (At w9 wb (wcells x y k t n e l gv) 51) from (Fr.grown (S := fun j => gv.ownBlock = some j) (Fr.refl _ _) hgr (fun j hj => .inl hj)).at (HW8.out.alloc _) (by
          intro h; have := HC.out.row.tg wb h; rw [HC.out.tg] at this; simp at this))
        have hc9 := HW9.out.cell
        have hz9 := HW9.out.frozen
        simp only [wcells, pv] at hc9
        have HEnd : Hid (LawAt J w0 (w9.setCell ⟨wb, 9, none⟩ (.slice (some ⟨g, 0, none⟩) (gs.length + 1) cap)) wb k t n e l N (G + 1)) := by
          obtain ⟨p1, p2, p3, p4⟩ := HP1.out
          obtain ⟨s1, s2, s3, s4⟩ := HSW.out
          have s5 := HSZ.out
          exact law_given HSd.out (w3 := w3') (sn := sn) HC.out hG' HO.out HF.out HE1.out p1 p2 ⟨by omega, by omega⟩ ⟨by omega, by omega⟩ (by omega) HE2.out HJ7.out HFw.out HI.out.1 hsn HI.out.2.1 HI.out.2.2.1 HI.out.2.2.2 hown hgr (by rcases hge with h | h; exact .inl h; exact .inr (by simpa using h))
        clear hown hgr hge hc8 HR8 HW8 HI HJ7 HFw
        go_wp2
        go_ret
        exact ⟨rfl, HEnd.out⟩
end
end Go.Proofs.YtfccelbmacjifaaGreat

set_option linter.unusedSimpArgs false
namespace Go.Proofs.YtfccelbmacjifaaGreat
open Go.RowKit
/-- The number that a raw number speaks of. -/
def pickN (c n : Int) : Int := (if c < 0 then -(c + 1) else c).tmod n
theorem pickN_in {c n : Int} (hn : 0 < n) : 0 ≤ pickN c n ∧ pickN c n < n := by
  unfold pickN
  split
  · exact ⟨Int.tmod_nonneg _ (by omega), Int.tmod_lt_of_pos _ hn⟩
  · exact ⟨Int.tmod_nonneg _ (by omega), Int.tmod_lt_of_pos _ hn⟩
set_option maxHeartbeats 1000000 in
theorem pick_calls (c n : Int) (hc : -9223372036854775808 ≤ c ∧ c ≤ 9223372036854775807) (hn : 0 < n ∧ n ≤ 100) (w : World) :
    Calls Tryz.prog 31 #[.int .i64 c, .int .i64 n] w fun r w' => r = .returned (.int .i64 (pickN c n)) ∧ w' = w := by
  obtain ⟨c1, c2⟩ := hc
  obtain ⟨n1, n2⟩ := hn
  have hne : (n == 0) = false := by simp; omega
  have hne' : n ≠ 0 := by omega
  have hp := pickN_in (c := c) n1
  have HP : Hid (0 ≤ pickN c n ∧ pickN c n < n) := hp
  clear hp
  by_cases h0 : c < 0
  · have hv : pickN c n = (-(c + 1)).tmod n := by unfold pickN; rw [if_pos h0]
    have hv' : pickN c n = (-1 + -c).tmod n := by rw [hv]; congr 1; omega
    go_enter Tryz.func31, Tryz.ntmps31
    go_wp2
    go_ret
    exact ⟨by rw [hv, Int.neg_tmod]; rfl, rfl⟩
  · have hv : pickN c n = c.tmod n := by unfold pickN; rw [if_neg h0]
    go_enter Tryz.func31, Tryz.ntmps31
    go_wp2
    go_ret
    exact ⟨by rw [Int.tmod_eq_emod_of_nonneg h0]; rfl, rfl⟩
/-- Is that act one that is played? -/
def fitB (a : ActD) (b1 b2 b4 : Int) : Bool := if a.kd = 1 then (if a.o = 1 ∨ a.o = 2 then b1 != 0 else b2 != 0) else if a.kd = 6 then b4 != 0 else true
set_option maxHeartbeats 1000000 in
theorem fits_calls (a : ActD) (p b1 b2 b4 : Int) (h1 : bits .and .i64 p 1 = b1) (h2 : bits .and .i64 p 2 = b2) (h4 : bits .and .i64 p 4 = b4) (w : World) :
    Calls Tryz.prog 25 #[actVal a, .int .i64 p] w fun r w' => r = .returned (.bool (fitB a b1 b2 b4)) ∧ Fr (fun _ => False) w w' := by
  obtain ⟨kd, tt, o, ky, v, m, sa, sn, sc, ps⟩ := a
  simp only [actVal]
  go_enter Tryz.func25, Tryz.ntmps25
  by_cases hk : kd = 1
  · subst hk
    by_cases ho : o = 1
    · subst ho
      go_wp2
      go_ret
      exact ⟨by simp [fitB], (Fr.refl _ _).alloc _⟩
    · by_cases ho2 : o = 2
      · subst ho2
        go_wp2
        go_ret
        exact ⟨by simp [fitB], (Fr.refl _ _).alloc _⟩
      · have ho' : (o == 1) = false := by simp [ho]
        have ho2' : (o == 2) = false := by simp [ho2]
        go_wp2
        go_ret
        exact ⟨by simp [fitB, ho, ho2], (Fr.refl _ _).alloc _⟩
  · by_cases h6 : kd = 6
    · subst h6
      go_wp2
      go_ret
      exact ⟨by simp [fitB], (Fr.refl _ _).alloc _⟩
    · go_wp2
      go_ret
      exact ⟨by simp [fitB, hk, h6], (Fr.refl _ _).alloc _⟩
theorem Tryz.aggConfig : ∀ w : World, (isAgg 23).run Tryz.prog w = .ok true w := fun _ => by kernel_rfl
theorem Tryz.sizeConfig : ∀ w : World, (sizeOf 23).run Tryz.prog w = .ok 5 w := fun _ => by kernel_rfl
set_option maxHeartbeats 1000000 in
theorem of_calls (k t n e l k' : Int) (w : World) :
    Calls Tryz.prog 15 #[cfg k t n e l, .int .i64 k'] w fun r w' => r = .returned (cfg k' t n e l) ∧ Fr (fun _ => False) w w' := by
  unfold cfg
  go_enter Tryz.func15, Tryz.ntmps15
  go_wp2
  refine bodyPost_ret (v := cfg k' t n e l) (by simp [results, Tryz.results15, go_sem, cfg]) rfl ⟨rfl, ((Fr.refl _ _).alloc _).alloc _⟩
section
variable {J : Own → World → Nat → Nat → Nat → Prop} {ok : Int → Prop} {w0 : Root} {w w' : World} {wb x y N G : Nat} {k t n e l : Int}
set_option maxHeartbeats 1000000 in
theorem writes_nil (h : LawAt J w0 w wb k t n e l N G) :
    Calls Tryz.prog 35 #[pv wb] w fun r w' => r = .returned (.tuple #[]) ∧ w' = w := by
  obtain ⟨x, y, gv, hA⟩ := h.at_
  have hc := hA.cell
  simp only [wcells, pv] at hc
  clear hA h
  unfold pv
  go_enter Tryz.func35, Tryz.ntmps35
  go_wp2_with fail
  refine wp_loop_rounds 1 ?_
  rw [rounds_succ]
  go_wp2_with fail
  refine wp_loop_rounds 1 ?_
  rw [rounds_succ]
  go_wp2
  go_end0
  exact ⟨rfl, rfl⟩
end
end Go.Proofs.YtfccelbmacjifaaGreat

set_option linter.unusedSimpArgs false
namespace Go.Proofs.YtfccelbmacjifaaGreat
open Go.RowKit

set_option maxHeartbeats 1000000 in
theorem lmade_no (k t n e l : Int) (w : World) (hok : okCfg k t n e l = false) :
    Calls Tryz.prog 16 #[cfg k t n e l] w fun r w' => r = .returned (.tuple #[.pointer none, .bool true]) ∧ Fr (fun _ => False) w w' := by
  have HOK : Hid _ := hok
  clear hok
  unfold cfg
  go_enter Tryz.func16, Tryz.ntmps16
  go_wp2_with fail
  refine (XNew_no k t n e l _ HOK.out).mono ?_
  rintro r w1 ⟨rfl, hF1⟩
  have hC : At w1 w.heap.size [.int .i64 k, .int .i64 t, .int .i64 n, .int .i64 e, .int .i64 l] 23 := hF1.at (At.new w _ _) (fun h => h)
  have hcc := hC.cell
  have HF1 := (show Hid (Fr _ _ _) from ((Fr.refl _ _).alloc _).trans hF1)
  clear hF1 hC
  go_wp2_with fail
  refine (RNew_no k t n e l _ HOK.out).mono ?_
  rintro r w2 ⟨rfl, hF2⟩
  have HF2 := (show Hid (Fr _ _ _) from HF1.out.trans hF2)
  clear hF2 HF1
  go_wp2
  go_ret2
  exact ⟨rfl, HF2.out⟩

/-- Two new stores side by side. -/
theorem JU.start {w w1 w2 : World} {L : XLay} {M : RLay} {b : Nat} {t n e l : Int} (hok : okCfg 0 t n e l = true) (hX : XAt w1 L (freshX 0 t n e l)) (hL : ∀ c, L.own c → w.heap.size ≤ c) (hww : w.heap.size ≤ w1.heap.size)
    (hR : RAt w2 M (freshR 0 t n e l b)) (hM : RMore w2 M b) (hF : Fr (fun _ => False) w1 w2) (hMn : ∀ c, M.own c → w1.heap.size ≤ c) (hb : w1.heap.size ≤ b) (hr : ∀ r, M.rv = .pointer (some ⟨r, 0, none⟩) → w1.heap.size ≤ r) :
    ∃ own, JU own w2 L.s M.s 0 ∧ ∀ j, j < w.heap.size → (own j).z = 3 := by
  obtain ⟨_, ht, hn, he, hl⟩ := okCfg_parts hok
  obtain ⟨own1, L', hZ, hE1, es1⟩ := ZAt.ofNew (own := fun _ => ⟨3, .store⟩) (z := 0) (w := w) hX hL ht.2
  obtain ⟨own2, M', hB, hE2, es2⟩ := BAt.ofNew (own := own1) (z := 1) (w := w1) hR hM hMn hb hr ht.1
  refine ⟨own2, ⟨L', M', _, _, id, es1, es2, hZ.fr hF hE2 (fun _ _ h => h), hB, fresh_rel t n e l ht hn.1 he.1 hl, fresh_big t n e l hn.2 he.2⟩, ?_⟩
  intro j hj
  rw [hE2 j (by omega), hE1 j hj]

set_option maxHeartbeats 1000000 in
theorem lmade_yes (t n e l : Int) (w : World) (hok : okCfg 0 t n e l = true) :
    Calls Tryz.prog 16 #[cfg 0 t n e l] w fun r w' => ∃ (wb : Nat), r = .returned (.tuple #[pv wb, .bool true]) ∧ LawAt JU (Root.all w) w' wb 0 t n e l 0 0 := by
  have HOK : Hid _ := hok
  clear hok
  unfold cfg
  go_enter Tryz.func16, Tryz.ntmps16
  go_wp2_with fail
  refine (XNew_yes 0 t n e l _ HOK.out).mono ?_
  rintro r w1 ⟨L, rfl, hX, hF1, hL⟩
  have hC : At w1 w.heap.size [.int .i64 0, .int .i64 t, .int .i64 n, .int .i64 e, .int .i64 l] 23 := hF1.at (At.new w _ _) (fun h => h)
  have hcc := hC.cell
  have HC := (show Hid (At _ _ _ _) from hC)
  have HF1 := (show Hid (Fr _ _ _) from ((Fr.refl _ _).alloc _).trans hF1)
  have HX := (show Hid (XAt _ _ _) from hX)
  simp only [World.size_alloc] at hL
  have HL := (show Hid (∀ b, L.own b → w.heap.size + 1 ≤ b) from hL)
  clear hF1 hC hX hL
  go_wp2_with fail
  refine (RNew_full 0 t n e l _ HOK.out).mono ?_
  rintro r w2 ⟨M, b, rfl, hR, hM, hF2, hMn, hbn, hrn⟩
  have hcc := (hF2.at HC.out (fun h => h)).cell
  obtain ⟨own, hJ, ho⟩ := JU.start HOK.out HX.out (fun c hc => by have := HL.out c hc; omega) HF1.out.size hR hM hF2 hMn hbn hrn
  have HF2 := (show Hid (Fr _ _ _) from HF1.out.trans hF2)
  have HJ := (show Hid (JU _ _ _ _ _) from hJ)
  have HO := (show Hid (∀ j, _ → _) from ho)
  clear hF2 HF1 HC hR hM HX hMn hJ ho hbn hrn HL
  go_wp2
  go_ret2
  have hfr : Fr (fun _ => False) w2 (w2.alloc (.cells (wcells L.s M.s 0 t n e l (.slice none 0 0)).toArray 51)) := (Fr.refl _ _).alloc _
  have hE : Ext own (own.put w2.heap.size 2 .store) w2 := Ext.put (Nat.le_refl _) _ _
  refine ⟨w2.heap.size, rfl, own.put w2.heap.size 2 .store, L.s, M.s, .slice none 0 0, [], HJ.out.fr hfr hE (fun _ _ h => h.elim), ⟨At.new w2 _ _, Own.put_same _ _ _ _, Row.nil _ _ _ _ _ _, fun i g hg => by simp at hg, fun g hg => by simp at hg⟩, Nat.le_refl _, ?_, (HF2.out.trans hfr).mono (fun _ _ h => h.elim)⟩
  intro j hj
  refine ⟨hj, ?_⟩
  rw [hE j (Nat.lt_of_lt_of_le hj HF2.out.size)]
  exact HO.out j hj
end Go.Proofs.YtfccelbmacjifaaGreat

set_option linter.unusedSimpArgs false
namespace Go.Proofs.YtfccelbmacjifaaGreat
open Go.ChangeShapes Go.WideShapes Go.ChangeAt Go.RowKit Go.Joins Go.Deep
theorem Tryz.own : ownKnob Tryz.prog.godebug = none := by kernel_rfl
theorem Tryz.laidOut : laidOutB Tryz.prog = true := by kernel_rfl
theorem Tryz.cellsConfig : Tryz.prog.cellsOf 23 = 5 := by kernel_rfl
theorem Tryz.cellsAct : Tryz.prog.cellsOf 34 = 7 := by kernel_rfl
theorem Tryz.cellsSpan : Tryz.prog.cellsOf 138 = 2 := by kernel_rfl
theorem Tryz.cellsSpans : Tryz.prog.cellsOf 32 = 1 := by kernel_rfl
theorem Tryz.cellsInt : Tryz.prog.cellsOf 3 = 1 := by kernel_rfl

theorem list5 {α : Type} {l : List α} (h : l.length = 5) : ∃ a b c d e, l = [a, b, c, d, e] := by
  match l, h with
  | [a, b, c, d, e], _ => exact ⟨a, b, c, d, e, rfl⟩
theorem array5 {α : Type} {l : Array α} (h : l.size = 5) : ∃ a b c d e, l = #[a, b, c, d, e] := by
  obtain ⟨l⟩ := l
  obtain ⟨a, b, c, d, e, rfl⟩ := list5 (l := l) h
  exact ⟨a, b, c, d, e, rfl⟩
section
variable {H : Type} {enc : TypeId × Value → H} {P : Program} {w : World} {base : Nat} {spare : Nat → Bool} {held : Bool}
theorem trod_struct5 {t : TypeId} {f0 f1 f2 f3 f4 : Field} {fuel : Nat} {cs : List Value} {x : DataW H × List MemPlace} (ht : P.underlying t = some (.struct #[f0, f1, f2, f3, f4])) (h : DataW.trod enc P w base spare held fuel t cs = some x) :
    ∃ y0 y1 y2 y3 y4 n, DataW.trod enc P w base spare held n f0.type ((cs.drop f0.offset).take (P.cellsOf f0.type)) = some y0 ∧
      DataW.trod enc P w base spare held n f1.type ((cs.drop f1.offset).take (P.cellsOf f1.type)) = some y1 ∧ DataW.trod enc P w base spare held n f2.type ((cs.drop f2.offset).take (P.cellsOf f2.type)) = some y2 ∧
      DataW.trod enc P w base spare held n f3.type ((cs.drop f3.offset).take (P.cellsOf f3.type)) = some y3 ∧ DataW.trod enc P w base spare held n f4.type ((cs.drop f4.offset).take (P.cellsOf f4.type)) = some y4 := by
  obtain ⟨xs, n, _, rfl, hl, hlen, hf⟩ := DataW.trod_struct ht h
  obtain ⟨y0, y1, y2, y3, y4, rfl⟩ := list5 (l := xs) hlen
  exact ⟨y0, y1, y2, y3, y4, n, by simpa using hf 0 f0 rfl, by simpa using hf 1 f1 rfl, by simpa using hf 2 f2 rfl, by simpa using hf 3 f3 rfl, by simpa using hf 4 f4 rfl⟩
theorem ints5 {r : Reach} {b0 : Nat} {t ti : TypeId} {f0 f1 f2 f3 f4 : Field} {v : Value} {d : DataW H} {p : List MemPlace} (hs : P.underlying t = some (.struct #[f0, f1, f2, f3, f4])) (hone : oneCellFields P #[f0, f1, f2, f3, f4] = true) (hC : P.cellsOf t = 5)
    (hi : P.underlying ti = some (.int .i64)) (h0 : f0.type = ti) (h1 : f1.type = ti) (h2 : f2.type = ti) (h3 : f3.type = ti) (h4 : f4.type = ti)
    (hv : Value.okWide P w r b0 t v) (h : DataW.Trod enc P w base spare held t v d p) : ∃ k t n e l : Int, v = cfg k t n e l := by
  obtain ⟨cs, rfl, hsz⟩ := okWide_struct hs hv
  obtain ⟨c0, c1, c2, c3, c4, rfl⟩ := array5 (hsz.trans hC)
  obtain ⟨fuel, hf⟩ := h
  obtain ⟨y0, y1, y2, y3, y4, n, g0, g1, g2, g3, g4⟩ := trod_struct5 hs hf
  obtain ⟨o0, k0⟩ := hone_of hone 0 f0 rfl
  obtain ⟨o1, _⟩ := hone_of hone 1 f1 rfl
  obtain ⟨o2, _⟩ := hone_of hone 2 f2 rfl
  obtain ⟨o3, _⟩ := hone_of hone 3 f3 rfl
  obtain ⟨o4, _⟩ := hone_of hone 4 f4 rfl
  rw [h0] at k0
  simp only [o0, o1, o2, o3, o4, h0, h1, h2, h3, h4, k0] at g0 g1 g2 g3 g4
  obtain ⟨a0, e0, _, _⟩ := DataW.trod_int hi g0
  obtain ⟨a1, e1, _, _⟩ := DataW.trod_int hi g1
  obtain ⟨a2, e2, _, _⟩ := DataW.trod_int hi g2
  obtain ⟨a3, e3, _, _⟩ := DataW.trod_int hi g3
  obtain ⟨a4, e4, _, _⟩ := DataW.trod_int hi g4
  simp [Value.cells] at e0 e1 e2 e3 e4
  subst e0 e1 e2 e3 e4
  exact ⟨a0, a1, a2, a3, a4, rfl⟩
end
set_option maxRecDepth 100000 in
/-- Settings, as they come in, are five numbers. -/
theorem cfg_open {H : Type} {enc : TypeId × Value → H} {W : World} {r : Reach} {b0 base : Nat} {spare : Nat → Bool} {held : Bool} {v : Value} {d : DataW H} {p : List MemPlace}
    (hv : Value.okWide Tryz.prog W r b0 23 v) (h : DataW.Trod enc Tryz.prog W base spare held 23 v d p) : ∃ k t n e l : Int, v = cfg k t n e l :=
  ints5 Tryz.underlying23 (by kernel_rfl) Tryz.cellsConfig Tryz.underlying3 rfl rfl rfl rfl rfl hv h

/-! What the bound gives -/
theorem bulk_one {H : Type} (d : DataW H) : 1 ≤ Rows.uptoBulk d := by
  cases d with
  | lit l => cases l <;> simp [Rows.uptoBulk]
  | nil => simp [Rows.uptoBulk]
  | ptr d => simp [Rows.uptoBulk]
  | slice elems spare => simp [Rows.uptoBulk]
  | agg parts => simp [Rows.uptoBulk]
  | iface t d => simp [Rows.uptoBulk]
  | map entries => simp [Rows.uptoBulk]
  | held h => simp [Rows.uptoBulk]
theorem bulk_part {H : Type} {d : DataW H} : ∀ {l : List (DataW H)}, d ∈ l → Rows.uptoBulk d ≤ Rows.uptoBulkAll l
  | [], h => by cases h
  | x :: r, h => by
    simp only [Rows.uptoBulkAll]
    rcases List.mem_cons.1 h with rfl | e
    · omega
    · have := bulk_part e; omega
theorem bulk_len {H : Type} : ∀ (l : List (DataW H)), l.length ≤ Rows.uptoBulkAll l
  | [] => by simp
  | x :: r => by have h1 := bulk_one x; have h2 := bulk_len r; simp only [Rows.uptoBulkAll, List.length_cons]; omega
set_option maxRecDepth 100000 in
/-- A script, as it comes in. -/
theorem acts_open {H : Type} {enc : TypeId × Value → H} {W : World} {r : Reach} {b0 base : Nat} {spare : Nat → Bool} {held : Bool} {v : Value} {d : DataW H} {p : List MemPlace}
    (hv : Value.okWide Tryz.prog W r b0 24 v) (h : DataW.Trod enc Tryz.prog W base spare held 24 v d p) :
    ∃ sa n c, ∃ acts : List ActD, v = .slice sa n c ∧ n ≤ Rows.uptoBulk d ∧ acts.length = n ∧ ∀ i a, acts[i]? = some a → ActIn W sa i a ∧ a.sn ≤ Rows.uptoBulk d := by
  obtain ⟨fuel, hf⟩ := h
  obtain ⟨sa0, n0, c0, rfl⟩ := okWide_slice Tryz.underlying24 hv
  obtain ⟨sa, n, c, acts, e, h1, h2, h3⟩ := script_open (B := Rows.uptoBulk) Tryz.underlying24 Tryz.underlying34 Tryz.cellsAct rfl rfl rfl rfl rfl rfl rfl rfl rfl rfl rfl rfl rfl rfl Tryz.cellsInt Tryz.underlying3 Tryz.cellsSpans
    Tryz.underlying32 Tryz.underlying138 Tryz.cellsSpan rfl rfl rfl rfl
    (fun elems sp => by have := bulk_len elems; simp only [Rows.uptoBulk]; omega) (fun elems sp d hd => by have := bulk_part hd; simp only [Rows.uptoBulk]; omega) (fun parts d hd => by have := bulk_part hd; simp only [Rows.uptoBulk]; omega) hf
  simp [Value.cells] at e
  obtain ⟨rfl, rfl, rfl⟩ := e
  exact ⟨_, _, _, acts, rfl, h1, h2, h3⟩
end Go.Proofs.YtfccelbmacjifaaGreat

set_option linter.unusedSimpArgs false
namespace Go.Proofs.YtfccelbmacjifaaGreat
open Go.RowKit
/-- A region that draws its order: it reads, calls what turns nothing, and at last calls once. -/
theorem wp_region_two {Pg : Program} {id : Nat} {Q : Exit → Go.Act → World → Prop} {a : Go.Act} {w : World} {l : List Oper} (c e : Nat) (S : Nat → Prop) (C : World → Prop) (hC : ∀ w', C w' → Fr S w w')
    (hm : Pg.follows .mixedOrders = true) (hB : Region.lexB .any l.toArray = true) (hch : chainB .any l.toArray [c, e] = true) (hne : c ≠ e) (hlow : lowB .any l.toArray = true) (hc : c < l.length) (he : e < l.length)
    (h : ∀ (U : Type) (W : U → World), Nonempty U → (∀ u, Fr S w (W u)) → wpMix Pg l.toArray (fun w' => ∃ u, w' = W u) (fun k w' => (k ≤ 1 → Fr (fun _ => False) w w') ∧ (k = 2 → C w')) [c, e] (fun a' => ∀ w', C w' → Q .normal a' w') l 0 0 a) :
    (Code.region id l.toArray true).wp Pg Q a w := by
  refine wp_region_mixC [c, e] (fun k w' => (k ≤ 1 → Fr (fun _ => False) w w') ∧ (k = 2 → C w')) 1 rfl hm hB hch (by simp [hne]) hlow (by simp; omega) ⟨fun _ => (Fr.refl _ _).drew, by simp⟩ ?_
  intro U W hU hW
  have := h U W hU (fun u => by
    obtain ⟨k, hk, h0, h1⟩ := hW u
    rcases (show k ≤ 1 ∨ k = 2 by omega) with hk | hk
    · exact (h0 hk).mono (fun _ _ h => h.elim)
    · exact hC _ (h1 hk))
  simpa using this
section
variable {J : Own → World → Nat → Nat → Nat → Prop} {ok : Int → Prop} {w0 : Root} {w w' : World} {wb x y N G : Nat} {k t n e l : Int}
set_option maxHeartbeats 2000000 in
set_option maxRecDepth 100000 in
theorem act_calls (S : Sides J ok) (h : LawAt J w0 w wb k t n e l N G) (ht : 0 ≤ t ∧ t ≤ 8) (hN : N + 320 < 2 ^ 39) (hG : G ≤ 2 ^ 21) (a : ActD) (hps : Spans w a.sa a.sn a.ps) (hsn : a.sn ≤ 2 ^ 20)
    (hm : -9223372036854775808 ≤ a.m ∧ a.m ≤ 9223372036854775807) (h6 : a.kd ≠ 6) (hok : a.kd = 1 → ok a.o) :
    Calls Tryz.prog 17 #[pv wb, actVal a] w fun r w' => r = .returned (.bool true) ∧ ∃ N', N' ≤ N + 320 ∧ LawAt J w0 w' wb k t n e l N' (G + 1) := by
  obtain ⟨kd, tt, o, ky, v, m, sa, sn, sc, ps⟩ := a
  simp only at hps hsn hm h6 hok
  have HS := (show Hid (Sides J ok) from S)
  have HL := (show Hid (LawAt J w0 (w.alloc (.cells #[.int .i64 kd, .int .i64 tt, .int .i64 o, .int .i64 ky, .int .i64 v, .int .i64 m, .slice sa sn sc] 34)) wb k t n e l N G) from h.calm S ((Fr.refl _ _).alloc _))
  have HP := (show Hid (Spans (w.alloc (.cells #[.int .i64 kd, .int .i64 tt, .int .i64 o, .int .i64 ky, .int .i64 v, .int .i64 m, .slice sa sn sc] 34)) sa sn ps) from hps.calm ((Fr.refl _ _).alloc _))
  have HM := (show Hid (_ ∧ _) from hm)
  have HOK := (show Hid (kd = 1 → ok o) from hok)
  have HT := (show Hid (0 ≤ t ∧ t ≤ 8) from ht)
  have hpk := pickN_in (c := m) (n := 40) (by omega)
  obtain ⟨hpk0, hpk1⟩ := hpk
  have HL0 := (show Hid (LawAt J w0 w wb k t n e l N G) from h)
  clear h S hps hm hok ht
  simp only [actVal]
  unfold pv
  by_cases h1 : kd = 1
  · subst h1
    go_enter Tryz.func17, Tryz.ntmps17
    go_wp2_with fail
    refine (begins_calls HS.out HL.out hG ⟨1, tt, o, ky, v, m, sa, sn, sc, ps⟩ HP.out hsn (HOK.out (by first | trivial | rfl))).mono ?_
    rintro r w1 ⟨rfl, hL1⟩
    have HL1 := (show Hid (LawAt _ _ _ _ _ _ _ _ _ _ _) from hL1)
    clear hL1
    go_wp2
    go_ret
    exact ⟨rfl, N, by omega, HL1.out⟩
  by_cases h2 : kd = 2
  · subst h2
    go_enter Tryz.func17, Tryz.ntmps17
    go_wp2_with fail
    refine (steps_calls HS.out HL.out (by omega) tt).mono ?_
    rintro r w1 ⟨q, rfl, hL1⟩
    have HL1 := (show Hid (LawAt _ _ _ _ _ _ _ _ _ _ _) from hL1.mono (Nat.le_succ G))
    clear hL1
    go_wp2
    go_ret
    exact ⟨rfl, N + 1, by omega, HL1.out⟩
  by_cases h3 : kd = 3
  · subst h3
    have HX := (show Hid (At (w.alloc (.cells #[.int .i64 3, .int .i64 tt, .int .i64 o, .int .i64 ky, .int .i64 v, .int .i64 m, .slice sa sn sc] 34)) w.heap.size [.int .i64 3, .int .i64 tt, .int .i64 o, .int .i64 ky, .int .i64 v, .int .i64 m, .slice sa sn sc] 34) from At.new w [.int .i64 3, .int .i64 tt, .int .i64 o, .int .i64 ky, .int .i64 v, .int .i64 m, .slice sa sn sc] _)
    go_enter Tryz.func17, Tryz.ntmps17
    go_wp2_with fail
    have HLk := (show Hid (LawAt J ⟨fun j => w0.D j ∨ j = w.heap.size, _⟩ (w.alloc (.cells #[.int .i64 3, .int .i64 tt, .int .i64 o, .int .i64 ky, .int .i64 v, .int .i64 m, .slice sa sn sc] 34)) wb k t n e l N G) from HL0.out.keep HS.out ((Fr.refl _ _).alloc _) (Nat.le_refl _) (by simp))
    have HRt := (show Hid ((∀ j, w0.D j → j < w0.w.heap.size) ∧ Fr (fun j => ¬ w0.D j) w0.w (w.alloc (.cells #[.int .i64 3, .int .i64 tt, .int .i64 o, .int .i64 ky, .int .i64 v, .int .i64 m, .slice sa sn sc] 34))) from HL.out.root)
    generalize w.alloc _ = w1 at HX HL HP HLk HRt ⊢
    refine wp_region_two 5 7 (fun j => j ≠ w.heap.size) (fun w' => ∃ N', N' ≤ N + 40 ∧ LawAt J ⟨fun j => w0.D j ∨ j = w.heap.size, w1⟩ w' wb k t n e l N' G) (fun w' ⟨_, _, h⟩ => (h.back HRt.out.1 HRt.out.2).2) (by kernel_rfl) (by kernel_rfl) (by kernel_rfl) (by decide) (by kernel_rfl) (by decide) (by decide) ?_
    intro U W hU hW
    have hbu : ∀ u j, (W u).cell? ⟨w.heap.size, j, none⟩ = [Value.int .i64 3, .int .i64 tt, .int .i64 o, .int .i64 ky, .int .i64 v, .int .i64 m, .slice sa sn sc][j]? := fun u => ((hW u).at HX.out (by simp)).cell
    clear hW
    repeat (refine mix_read rfl rfl ?_; go_big_quiet_step (fail); refine wpQuiet_nil ?_)
    refine mix_effC (.int .i64 (pickN m 40)) rfl rfl rfl ?_ ?_
    · intro w' hw'
      have hw0 := hw'.1 (by omega)
      go_simp
      refine (pick_calls m 40 HM.out (by omega) w').mono ?_
      rintro r w'' ⟨rfl, rfl⟩
      exact ⟨rfl, hw0⟩
    go_simp
    repeat (refine mix_read rfl rfl ?_; go_big_quiet_step (fail); refine wpQuiet_nil ?_)
    refine mix_effC (.bool true) rfl rfl rfl ?_ ?_
    · intro w' hw'
      have hw0 := hw'.1 (by omega)
      go_simp
      refine (runs_calls HS.out (HLk.out.calm HS.out hw0) tt _ (by omega) (by omega)).mono ?_
      rintro r w'' ⟨rfl, N', h1, h2⟩
      exact ⟨rfl, N', h1, h2⟩
    go_simp
    repeat (refine mix_read rfl rfl ?_; go_big_quiet_step (fail); refine wpQuiet_nil ?_)
    refine mix_nil ?_
    intro w2 N' hN' hL'
    have HL2 := (show Hid (LawAt J w0 w2 wb k t n e l N' (G + 1)) from (hL'.back HRt.out.1 HRt.out.2).1.mono (Nat.le_succ G))
    clear hL' hbu HLk HRt HX
    go_wp2
    go_ret
    exact ⟨rfl, N', by omega, HL2.out⟩
  by_cases h4 : kd = 4
  · subst h4
    go_enter Tryz.func17, Tryz.ntmps17
    go_wp2_with fail
    refine (pick_calls m 40 HM.out (by omega) _).mono ?_
    rintro r w1 ⟨rfl, rfl⟩
    go_wp2_with fail
    refine (turns_calls HS.out HL.out _ (by omega) HT.out (by omega)).mono ?_
    rintro r w1 ⟨rfl, N', hN', hL1⟩
    have HL1 := (show Hid (LawAt _ _ _ _ _ _ _ _ _ _ _) from hL1.mono (Nat.le_succ G))
    clear hL1
    go_wp2
    go_ret
    exact ⟨rfl, N', hN', HL1.out⟩
  by_cases h5 : kd = 5
  · subst h5
    go_enter Tryz.func17, Tryz.ntmps17
    go_wp2_with fail
    refine (lanswers_calls HS.out HL.out tt).mono ?_
    rintro r w1 ⟨rfl, hF1⟩
    have HL1 := (show Hid (LawAt _ _ _ _ _ _ _ _ _ _ _) from (HL.out.calm HS.out hF1).mono (Nat.le_succ G))
    clear hF1
    go_wp2
    go_ret
    exact ⟨rfl, N, by omega, HL1.out⟩
  by_cases h7 : kd = 7
  · subst h7
    go_enter Tryz.func17, Tryz.ntmps17
    go_wp2_with fail
    refine (writes_nil HL.out).mono ?_
    rintro r w1 ⟨rfl, rfl⟩
    go_wp2
    go_ret
    exact ⟨rfl, N, by omega, HL.out.mono (Nat.le_succ G)⟩
  by_cases h8 : kd = 8
  · subst h8
    go_enter Tryz.func17, Tryz.ntmps17
    go_wp2_with fail
    refine (lclock_calls HS.out HL.out).mono ?_
    rintro r w1 ⟨rfl, rfl⟩
    go_wp2
    go_ret
    exact ⟨rfl, N, by omega, HL.out.mono (Nat.le_succ G)⟩
  by_cases h9 : kd = 9
  · subst h9
    go_enter Tryz.func17, Tryz.ntmps17
    go_wp2_with fail
    refine (lroom_calls HS.out HL.out (by omega)).mono ?_
    rintro r w1 ⟨rfl, rfl⟩
    go_wp2
    go_ret
    exact ⟨rfl, N, by omega, HL.out.mono (Nat.le_succ G)⟩
  have e1 : (kd == 1) = false := by simp [h1]
  have e2 : (kd == 2) = false := by simp [h2]
  have e3 : (kd == 3) = false := by simp [h3]
  have e4 : (kd == 4) = false := by simp [h4]
  have e5 : (kd == 5) = false := by simp [h5]
  have e6 : (kd == 6) = false := by simp [h6]
  have e7 : (kd == 7) = false := by simp [h7]
  have e8 : (kd == 8) = false := by simp [h8]
  have e9 : (kd == 9) = false := by simp [h9]
  go_enter Tryz.func17, Tryz.ntmps17
  go_wp2
  go_ret
  exact ⟨rfl, N, by omega, HL.out.mono (Nat.le_succ G)⟩
end
end Go.Proofs.YtfccelbmacjifaaGreat

