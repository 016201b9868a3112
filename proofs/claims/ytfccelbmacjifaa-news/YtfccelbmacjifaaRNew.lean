import Derived.Test.YtfccelbmacjifaaRData
namespace Go.Proofs.Ytfccelbmacjifaa
open Go.RowKit

theorem okCfg_parts {k t n e l : Int} (hok : okCfg k t n e l = true) : (0 ≤ k ∧ k ≤ 1) ∧ (1 ≤ t ∧ t ≤ 8) ∧ (0 ≤ n ∧ n ≤ 64) ∧ (1 ≤ e ∧ e ≤ 256) ∧ (0 ≤ l ∧ l ≤ 1099511627776) := by
  simp only [okCfg, Bool.and_eq_true, isIn_iff] at hok
  omega

set_option maxHeartbeats 2000000 in
theorem RNew_no (k t n e l : Int) (w : World) (hok : okCfg k t n e l = false) :
    Calls Try.prog 7 #[cfg k t n e l] w fun r w' => r = .returned (.tuple #[.pointer none, .int .i64 1]) ∧ Fr (fun _ => False) w w' := by
  unfold cfg
  cases hk : isIn k 0 1
  · clear hok
    go_enter Try.func7, Try.ntmps7
    go_wp2_with (go_at_call 14; refine (between_calls _ _ _ _).mono ?_; rintro e w' ⟨rfl, rfl⟩)
    go_ret2
    exact ⟨rfl, (Fr.refl _ _).alloc _⟩
  · cases ht : isIn t 1 8
    · clear hok
      go_enter Try.func7, Try.ntmps7
      go_wp2_with (go_at_call 14; refine (between_calls _ _ _ _).mono ?_; rintro e w' ⟨rfl, rfl⟩)
      go_ret2
      exact ⟨rfl, (Fr.refl _ _).alloc _⟩
    · cases hn : isIn n 0 64
      · clear hok
        go_enter Try.func7, Try.ntmps7
        go_wp2_with (go_at_call 14; refine (between_calls _ _ _ _).mono ?_; rintro e w' ⟨rfl, rfl⟩)
        go_ret2
        exact ⟨rfl, (Fr.refl _ _).alloc _⟩
      · cases he : isIn e 1 256
        · clear hok
          go_enter Try.func7, Try.ntmps7
          go_wp2_with (go_at_call 14; refine (between_calls _ _ _ _).mono ?_; rintro e w' ⟨rfl, rfl⟩)
          go_ret2
          exact ⟨rfl, (Fr.refl _ _).alloc _⟩
        · have hl : isIn l 0 1099511627776 = false := by
            simp only [okCfg, hk, ht, hn, he, Bool.true_and] at hok
            exact hok
          clear hok
          go_enter Try.func7, Try.ntmps7
          go_wp2_with (go_at_call 14; refine (between_calls _ _ _ _).mono ?_; rintro e w' ⟨rfl, rfl⟩)
          go_ret2
          exact ⟨rfl, (Fr.refl _ _).alloc _⟩

def anchorSpot (b : Nat) : RSpot := ⟨0, false, 0, 0, 1, 1, ⟨some ⟨b, 0, none⟩, 1, 1⟩, Sl.nil, false, false, false, -1, -1, false⟩
def endSpot : RSpot := ⟨-1, true, 1099511627777, 0, 0, 0, Sl.nil, Sl.nil, false, false, false, -1, -1, false⟩
def freshR (k t n e l : Int) (b : Nat) : RSt := { kind := k, threads := t, nodes := n, entries := e, limit := l, clock := 0, spots := [anchorSpot b, endSpot], ts := List.replicate t.toNat RThread.new0 }

/-- What New's own memory is, besides. -/
structure RMore (w : World) (L : RLay) (b : Nat) : Prop where
  round : ∃ r, L.rv = .pointer (some ⟨r, 0, none⟩) ∧ At w r [.int .i64 1, .int .i64 0, .int .i64 0, .slice none 0 0, .slice none 0 0] 66
  log : L.lv = .slice none 0 0
  stamp : At w b [.int .i64 0] 3

def cfgCells (k t n e l : Int) : List Value := [.int .i64 k, .int .i64 t, .int .i64 n, .int .i64 e, .int .i64 l]
def roundCells : List Value := [.int .i64 1, .int .i64 0, .int .i64 0, .slice none 0 0, .slice none 0 0]

/-- While New makes the store: the settings' own block c, the round r, the first stamp's block b. -/
structure RGrows (w wr : World) (L : RLay) (R : RSt) (k t n e l : Int) (c b r : Nat) : Prop where
  R : RAt wr L R
  cf : At wr c (cfgCells k t n e l) 23
  rd : At wr r roundCells 66
  st : At wr b [.int .i64 0] 3
  rv : L.rv = .pointer (some ⟨r, 0, none⟩)
  lv : L.lv = .slice none 0 0
  fr : Fr (fun _ => False) w wr
  new : ∀ x, L.own x → w.heap.size ≤ x
  nb : w.heap.size ≤ b

theorem refStart (w : World) (k t n e l : Int) :
    RGrows w (((((w.alloc (.cells (cfgCells k t n e l).toArray 23)).alloc (.cells roundCells.toArray 66)).alloc
      (.cells #[.int .i64 k, .int .i64 t, .int .i64 n, .int .i64 e, .int .i64 l, .int .i64 0, .slice none 0 0, .slice none 0 0, .slice none 0 0, .pointer (some ⟨w.heap.size + 1, 0, none⟩)] 71)).alloc (.cells #[.int .i64 0] 3)).alloc
      (.cells ({ anchorSpot (w.heap.size + 1 + 1 + 1) with owner := 0, out := 0 } : RSpot).cells.toArray 78))
      ⟨w.heap.size + 1 + 1, .slice none 0 0, [], .slice none 0 0, .slice none 0 0, [], .pointer (some ⟨w.heap.size + 1, 0, none⟩)⟩
      { kind := k, threads := t, nodes := n, entries := e, limit := l, clock := 0, spots := [], ts := [] } k t n e l w.heap.size (w.heap.size + 1 + 1 + 1) (w.heap.size + 1) := by
  refine ⟨⟨?_, World.ownsRow_nil _ _ _ _, rfl, by intro i b x h; simp at h, by simp, World.ownsRow_nil _ _ _ _, rfl, by intro i b x h; simp at h, by simp⟩, ?_, ?_, ?_, rfl, rfl, ?_, ?_, by omega⟩
  · exact ((At.newAt (c := [_, _, _, _, _, _, _, _, _, _]) (by simp) _).alloc _).alloc _
  · exact ((((At.newAt (c := cfgCells k t n e l) rfl _).alloc _).alloc _).alloc _).alloc _
  · exact (((At.newAt (c := roundCells) (by simp) _).alloc _).alloc _).alloc _
  · exact (At.newAt (c := [_]) (by simp) _).alloc _
  · exact (((((Fr.refl _ _).alloc _).alloc _).alloc _).alloc _).alloc _
  · intro x hx
    simp only [RLay.own, Value.ownBlock, List.not_mem_nil, or_false] at hx
    rcases hx with rfl | h | h
    · omega
    · cases h
    · cases h

section
variable {w wr w' : World} {L : RLay} {R : RSt} {k t n e l : Int} {c b r : Nat}
theorem RGrows.alloc (h : RGrows w wr L R k t n e l c b r) (o : Obj) : RGrows w (wr.alloc o) L R k t n e l c b r :=
  have f : Fr (fun _ => False) wr (wr.alloc o) := (Fr.refl _ _).alloc _
  ⟨h.R.fr f (fun _ _ h => h), h.cf.alloc _, h.rd.alloc _, h.st.alloc _, h.rv, h.lv, h.fr.alloc _, h.new, h.nb⟩
/-- Behind 'spot'. -/
theorem RGrows.spotted (h : RGrows w wr L R k t n e l c b r) {x : Nat} {v : List Value} (hx : At wr x v 78) (hxn : w.heap.size ≤ x) {g cap : Nat} {y : RSpot}
    (hR : RAt w' { L with sv := .slice (some ⟨g, 0, none⟩) (R.spots.length + 1) cap, sps := L.sps ++ [x] } { R with spots := R.spots ++ [y] })
    (hF : Fr (fun k => k = L.s ∨ k = x ∨ L.sv.ownBlock = some k) wr w') (hg : L.sv.ownBlock = some g ∨ wr.heap.size ≤ g) :
    RGrows w w' { L with sv := .slice (some ⟨g, 0, none⟩) (R.spots.length + 1) cap, sps := L.sps ++ [x] } { R with spots := R.spots ++ [y] } k t n e l c b r := by
  have out : ∀ {i : Nat} {u : List Value} {ty : TypeId}, At wr i u ty → ty ≠ 71 → ty ≠ 78 → ty ≠ 73 → ¬ (i = L.s ∨ i = x ∨ L.sv.ownBlock = some i) := by
    intro i u ty hi h1 h2 h3 ho
    rcases ho with ho | ho | ho
    · exact hi.ne h.R.hd h1 ho
    · exact hi.ne hx h2 ho
    · exact hi.ne_row h.R.sp h3 ho
  refine ⟨hR, hF.at h.cf (out h.cf (by decide) (by decide) (by decide)), hF.at h.rd (out h.rd (by decide) (by decide) (by decide)), hF.at h.st (out h.st (by decide) (by decide) (by decide)), h.rv, h.lv, ?_, ?_, h.nb⟩
  · refine h.fr.transNew hF ?_
    intro i hi
    right
    rcases hi with rfl | rfl | hi
    · exact h.new _ (.inl rfl)
    · exact hxn
    · exact h.new _ (.inr (.inl hi))
  · intro i hi
    rcases hi with hi | hi | hi | hi | hi
    · exact h.new i (.inl hi)
    · simp only [Value.ownBlock, Option.some.injEq] at hi
      subst hi
      rcases hg with hg | hg
      · exact h.new _ (.inr (.inl hg))
      · have := h.fr.size; omega
    · exact h.new i (.inr (.inr (.inl hi)))
    · simp at hi
      rcases hi with hi | rfl
      · exact h.new i (.inr (.inr (.inr (.inl hi))))
      · exact hxn
    · exact h.new i (.inr (.inr (.inr (.inr hi))))
/-- Behind an append to the threads. -/
theorem RGrows.threaded (h : RGrows w wr L R k t n e l c b r) {g cap : Nat} {v : List Value} {y : RThread}
    (ho : w'.ownsRow 0 79 1 (.slice (some ⟨g, 0, none⟩) (R.ts.length + 1) cap) (R.ts.length + 1) (ptrs L.ths ++ [.pointer (some ⟨wr.heap.size, 0, none⟩)]))
    (hg : ((wr.alloc (.cells y.cells.toArray 86)).alloc (.cells v.toArray 79)).grownBy w' L.tv.ownBlock) (hgn : L.tv.ownBlock = some g ∨ wr.heap.size ≤ g) :
    At w' L.s [.int .i64 R.kind, .int .i64 R.threads, .int .i64 R.nodes, .int .i64 R.entries, .int .i64 R.limit, .int .i64 R.clock, L.sv, L.lv, L.tv, L.rv] 71 ∧ At w' c (cfgCells k t n e l) 23 ∧
    RGrows w (w'.setCell ⟨L.s, 8, none⟩ (.slice (some ⟨g, 0, none⟩) (R.ts.length + 1) cap)) { L with tv := .slice (some ⟨g, 0, none⟩) (R.ts.length + 1) cap, ths := L.ths ++ [wr.heap.size] } { R with ts := R.ts ++ [y] } k t n e l c b r := by
  have h1 := h.alloc (.cells y.cells.toArray 86)
  have hnb : wr.heap.size ∉ L.ths := by
    intro hm
    obtain ⟨i, hi⟩ := List.getElem?_of_mem hm
    have hil : i < R.ts.length := by rw [← h.R.tlen]; exact (List.getElem?_eq_some_iff.1 hi).1
    have := (h.R.thr i _ _ hi (List.getElem?_eq_getElem hil)).lt
    omega
  obtain ⟨hA, hR⟩ := h1.R.pushThread (At.new wr y.cells _) hnb ho hg
  have hrow : ∀ i, L.tv.ownBlock = some i → w.heap.size ≤ i := fun i hi => h.new i (.inr (.inr (.inl hi)))
  have hs := h.new _ (.inl rfl)
  have c1 := ((h1.cf.alloc (.cells v.toArray 79)).grown hg (h.cf.ne_row h.R.th (by decide)))
  have c2 := ((h1.rd.alloc (.cells v.toArray 79)).grown hg (h.rd.ne_row h.R.th (by decide)))
  have c3 := ((h1.st.alloc (.cells v.toArray 79)).grown hg (h.st.ne_row h.R.th (by decide)))
  refine ⟨hA, c1, hR, c1.setOther _ (c1.ne hA (by decide)) _, c2.setOther _ (c2.ne hA (by decide)) _, c3.setOther _ (c3.ne hA (by decide)) _, h.rv, h.lv, ?_, ?_, h.nb⟩
  · exact Fr.setNew hs ((h1.fr.alloc _).grown hg (fun i hi => .inr (hrow i hi))) _ _
  · intro i hi
    rcases hi with hi | hi | hi | hi | hi
    · exact h.new i (.inl hi)
    · exact h.new i (.inr (.inl hi))
    · simp only [Value.ownBlock, Option.some.injEq] at hi
      subst hi
      rcases hgn with hg | hg
      · exact hrow _ hg
      · have := h.fr.size; omega
    · exact h.new i (.inr (.inr (.inr (.inl hi))))
    · simp at hi
      rcases hi with hi | rfl
      · exact h.new i (.inr (.inr (.inr (.inr hi))))
      · exact h.fr.size
end

set_option maxHeartbeats 4000000 in
set_option maxRecDepth 100000 in
theorem RNew_yes (k t n e l : Int) (w : World) (hok : okCfg k t n e l = true) :
    Calls Try.prog 7 #[cfg k t n e l] w fun r w' => ∃ (L : RLay) (b : Nat), r = .returned (.tuple #[.pointer (some ⟨L.s, 0, none⟩), .int .i64 0]) ∧ RAt w' L (freshR k t n e l b) ∧ RMore w' L b ∧ Fr (fun _ => False) w w' ∧ (∀ c, L.own c → w.heap.size ≤ c) ∧ w.heap.size ≤ b := by
  have hb := okCfg_parts hok
  obtain ⟨⟨k0, k1⟩, ⟨t0, t1⟩, ⟨n0, n1⟩, ⟨e0, e1⟩, ⟨l0, l1⟩⟩ := hb
  have b1 : isIn k 0 1 = true := isIn_true ⟨k0, k1⟩
  have b2 : isIn t 1 8 = true := isIn_true ⟨t0, t1⟩
  have b3 : isIn n 0 64 = true := isIn_true ⟨n0, n1⟩
  have b4 : isIn e 1 256 = true := isIn_true ⟨e0, e1⟩
  have b5 : isIn l 0 1099511627776 = true := isIn_true ⟨l0, l1⟩
  obtain ⟨t, rfl⟩ := Int.eq_ofNat_of_zero_le (show 0 ≤ t by omega)
  obtain ⟨iW, hiW, hzW, hsW, hbW⟩ := info_parts Try.infoThreadPtr
  clear hok
  unfold cfg
  go_enter Try.func7, Try.ntmps7
  go_wp2_with (go_at_call 14; refine (between_calls _ _ _ _).mono ?_; rintro e w' ⟨rfl, rfl⟩)
  clear b1 b2 b3 b4 b5
  have G0 := refStart w k t n e l
  refine (spot_calls G0.R (At.newAt (by simp) _ _) (by simp) (by simp)).mono ?_
  rintro r w1 ⟨g, cap, rfl, hR1, hF1, hg1⟩
  have G1 := G0.spotted (At.newAt (by simp) _ _) (by omega) hR1 hF1 hg1
  have HG1 := (show Hid (RGrows w w1 _ _ k t n e l w.heap.size (w.heap.size + 1 + 1 + 1) (w.heap.size + 1)) from G1)
  have hs1 := G1.fr.size
  clear G0 hR1 hF1 hg1 G1
  go_wp2_with fail
  have G1 := HG1.out.alloc (.cells ({ endSpot with owner := 0, out := 0 } : RSpot).cells.toArray 78)
  have hnb : w1.heap.size ∉ [w.heap.size + 1 + 1 + 1 + 1] := by
    intro hm
    simp at hm
    have := (HG1.out.R.spot 0 _ _ rfl rfl).lt
    omega
  refine (spot_calls G1.R (At.newAt rfl ({ endSpot with owner := 0, out := 0 } : RSpot).cells _) hnb (by simp)).mono ?_
  rintro r w2 ⟨g2, cap2, rfl, hR2, hF2, hg2⟩
  have HG2 : Hid (RGrows w w2 ⟨w.heap.size + 1 + 1, .slice (some ⟨g2, 0, none⟩) 2 cap2, [w.heap.size + 1 + 1 + 1 + 1, w1.heap.size], .slice none 0 0, .slice none 0 0, [], .pointer (some ⟨w.heap.size + 1, 0, none⟩)⟩
      { kind := k, threads := t, nodes := n, entries := e, limit := l, clock := 0, spots := [anchorSpot (w.heap.size + 1 + 1 + 1), endSpot], ts := [] } k t n e l w.heap.size (w.heap.size + 1 + 1 + 1) (w.heap.size + 1)) :=
    G1.spotted (At.newAt rfl _ _) (by omega) hR2 hF2 hg2
  clear G1 hR2 hF2 hg2 HG1 hnb
  generalize [w.heap.size + 1 + 1 + 1 + 1, w1.heap.size] = sps at HG2
  clear hs1
  go_wp2_with fail
  go_loopw [5] (fun i wr => ∃ (j : Nat) (tv : Value) (ths : List Nat), j ≤ t ∧ i = .int .i64 j ∧
      Hid (RGrows w wr ⟨w.heap.size + 1 + 1, .slice (some ⟨g2, 0, none⟩) 2 cap2, sps, .slice none 0 0, tv, ths, .pointer (some ⟨w.heap.size + 1, 0, none⟩)⟩
      { kind := k, threads := t, nodes := n, entries := e, limit := l, clock := 0, spots := [anchorSpot (w.heap.size + 1 + 1 + 1), endSpot], ts := List.replicate j RThread.new0 } k t n e l w.heap.size (w.heap.size + 1 + 1 + 1) (w.heap.size + 1))) (fun i _ => t - (intOf i).toNat)
  case atStart => exact ⟨0, _, _, Nat.zero_le _, rfl, HG2⟩
  case round =>
    clear HG2
    obtain ⟨j, tv, ths, hj, rfl, HG⟩ := hrel
    have hcc := HG.out.cf.cell
    have hcs := HG.out.R.hd.cell
    have hzs := HG.out.R.hd.frozen
    have hl1 := HG.out.R.hd.lt
    simp only [cfgCells] at hcc
    dsimp only at hcs hzs hl1
    by_cases hjt : j < t
    · go_wp2_with (at_builtin; refine wpList_push _ rfl _ _ 69 rfl 0 79 iW (.pointer none) 1 8 Try.underlying69 hiW hzW hsW hbW rfl (by decide) _ _ _ rfl (ownsRow_alloc (ownsRow_alloc HG.out.R.th _) _) (wr.heap.size + 1) [.pointer (some ⟨wr.heap.size, 0, none⟩)] rfl rfl 79 (At.newAt (by simp) _ _) (by simp [Value.oneCell']) (by simp; unfold maxLen; omega) (by simp; omega) (by simp) ?_)
      intro g cap w' hown hg hge
      have R1 := HG.out.threaded (y := RThread.new0) (v := [.pointer (some ⟨wr.heap.size, 0, none⟩)]) (g := g) (cap := cap) (by simpa using hown) hg (by rcases hge with h | h; exact .inl h; right; first | omega | (simp at h; omega))
      obtain ⟨hA, hC, hG⟩ := R1
      have hcc := hC.cell
      have hcs := hA.cell
      have hzs := hA.frozen
      simp only [cfgCells] at hcc
      dsimp only at hcs hzs
      have HG' : Hid (RGrows w (w'.setCell ⟨w.heap.size + 1 + 1, 8, none⟩ (.slice (some ⟨g, 0, none⟩) (j + 1) cap)) ⟨w.heap.size + 1 + 1, .slice (some ⟨g2, 0, none⟩) 2 cap2, sps, .slice none 0 0, .slice (some ⟨g, 0, none⟩) (j + 1) cap, ths ++ [wr.heap.size], .pointer (some ⟨w.heap.size + 1, 0, none⟩)⟩
          { kind := k, threads := t, nodes := n, entries := e, limit := l, clock := 0, spots := [anchorSpot (w.heap.size + 1 + 1 + 1), endSpot], ts := List.replicate (j + 1) RThread.new0 } k t n e l w.heap.size (w.heap.size + 1 + 1 + 1) (w.heap.size + 1)) := by
        rw [List.replicate_succ']
        show RGrows _ _ _ _ _ _ _ _ _ _ _ _
        simpa using hG
      clear hA hC hG hown hg hge HG hl1
      go_wp2
      go_roundw
      case rel => exact ⟨j + 1, _, _, by omega, by go_num, by simpa using HG'⟩
      case measure => simp [intOf]; omega
    · have hjt' : j = t := by omega
      subst hjt'
      go_wp2
      go_ret2
      refine ⟨_, _, rfl, HG.out.R, ⟨⟨_, rfl, HG.out.rd⟩, rfl, HG.out.st⟩, HG.out.fr, HG.out.new, HG.out.nb⟩
end Go.Proofs.Ytfccelbmacjifaa
