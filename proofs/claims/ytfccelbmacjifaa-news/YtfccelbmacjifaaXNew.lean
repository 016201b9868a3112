import Derived.Test.YtfccelbmacjifaaXData
namespace Go.Proofs.Ytfccelbmacjifaa
open Go.RowKit

set_option maxHeartbeats 400000 in
theorem isWithin_calls (n a b : Int) (w : World) :
    Calls Try.prog 25 #[.int .i64 n, .int .i64 a, .int .i64 b] w fun e w' => e = .returned (.bool (isIn n a b)) ∧ w' = w := by
  by_cases h1 : a ≤ n
  · by_cases h2 : n ≤ b
    · go_enter Try.func25, Try.ntmps25
      go_wp2
      go_ret
      exact ⟨ret_bool (isIn_true (by omega)).symm, rfl⟩
    · go_enter Try.func25, Try.ntmps25
      go_wp2
      go_ret
      exact ⟨ret_bool (isIn_false (by omega)).symm, rfl⟩
  · go_enter Try.func25, Try.ntmps25
    go_wp2
    go_ret
    exact ⟨ret_bool (isIn_false (by omega)).symm, rfl⟩

def cfg (k t n e l : Int) : Value := .agg #[.int .i64 k, .int .i64 t, .int .i64 n, .int .i64 e, .int .i64 l]
/-- P3: settings that may be. -/
def okCfg (k t n e l : Int) : Bool := isIn k 0 1 && isIn t 1 8 && isIn n 0 64 && isIn e 1 256 && isIn l 0 1099511627776

set_option maxHeartbeats 1000000 in
theorem isConfig_calls (k t n e l : Int) (w : World) :
    Calls Try.prog 12 #[cfg k t n e l] w fun r w' => r = .returned (.bool (okCfg k t n e l)) ∧ Fr (fun _ => False) w w' := by
  unfold cfg
  by_cases hk : k = 0 ∨ k = 1
  · have h0 : isIn k 0 1 = true := isIn_true (by omega)
    cases ht : isIn t 1 8
    · have hv : Hid (okCfg k t n e l = false) := by show _ = _; simp [okCfg, ht]
      rcases hk with rfl | rfl
      all_goals
        go_enter Try.func12, Try.ntmps12
        go_wp2_with (go_at_call 25; refine (isWithin_calls _ _ _ _).mono ?_; rintro e w' ⟨rfl, rfl⟩)
        go_ret
        exact ⟨ret_bool hv.out.symm, (Fr.refl _ _).alloc _⟩
    · cases hn : isIn n 0 64
      · have hv : Hid (okCfg k t n e l = false) := by show _ = _; simp [okCfg, hn]
        rcases hk with rfl | rfl
        all_goals
          go_enter Try.func12, Try.ntmps12
          go_wp2_with (go_at_call 25; refine (isWithin_calls _ _ _ _).mono ?_; rintro e w' ⟨rfl, rfl⟩)
          go_ret
          exact ⟨ret_bool hv.out.symm, (Fr.refl _ _).alloc _⟩
      · cases he : isIn e 1 256
        · have hv : Hid (okCfg k t n e l = false) := by show _ = _; simp [okCfg, he]
          rcases hk with rfl | rfl
          all_goals
            go_enter Try.func12, Try.ntmps12
            go_wp2_with (go_at_call 25; refine (isWithin_calls _ _ _ _).mono ?_; rintro e w' ⟨rfl, rfl⟩)
            go_ret
            exact ⟨ret_bool hv.out.symm, (Fr.refl _ _).alloc _⟩
        · have hv : Hid (okCfg k t n e l = isIn l 0 1099511627776) := by show _ = _; simp [okCfg, h0, ht, hn, he]
          rcases hk with rfl | rfl
          all_goals
            go_enter Try.func12, Try.ntmps12
            go_wp2_with (go_at_call 25; refine (isWithin_calls _ _ _ _).mono ?_; rintro e w' ⟨rfl, rfl⟩)
            go_ret
            exact ⟨ret_bool hv.out.symm, (Fr.refl _ _).alloc _⟩
  · have h0 : isIn k 0 1 = false := isIn_false (by omega)
    have hv : Hid (okCfg k t n e l = false) := by show _ = _; simp [okCfg, h0]
    have h1 : (k != 0) = true := by rw [bne_iff_ne]; omega
    have h2 : (k != 1) = true := by rw [bne_iff_ne]; omega
    go_enter Try.func12, Try.ntmps12
    go_wp2_with (go_at_call 25; refine (isWithin_calls _ _ _ _).mono ?_; rintro e w' ⟨rfl, rfl⟩)
    go_ret
    exact ⟨ret_bool hv.out.symm, (Fr.refl _ _).alloc _⟩

theorem Try.infoWorkerPtr : (Try.prog.info? 50).map (fun i => (i.zero, i.size, i.bytes)) = some (some (.pointer none), 1, 8) := by kernel_rfl

set_option maxHeartbeats 1000000 in
theorem XNew_no (k t n e l : Int) (w : World) (hok : okCfg k t n e l = false) :
    Calls Try.prog 6 #[cfg k t n e l] w fun r w' => r = .returned (.tuple #[.pointer none, .int .i64 1]) ∧ Fr (fun _ => False) w w' := by
  have Hok : Hid (okCfg k t n e l = false) := hok
  clear hok
  unfold cfg
  go_enter Try.func6, Try.ntmps6
  go_wp2_with fail
  refine (isConfig_calls k t n e l _).mono ?_
  rintro r w' ⟨rfl, hF⟩
  rw [Hok.out]
  go_wp2
  go_ret2
  exact ⟨rfl, ((Fr.refl _ _).alloc _).trans hF⟩

def freshTs (k : Nat) : List VWorker := (List.range k).map fun (i : Nat) => VWorker.new i
/-- A new store. -/
def freshX (k t n e l : Int) : XSt :=
  { kind := k, limit := l, clock := 0, mem := freshMem n.toNat e.toNat, ts := freshTs t.toNat, sweep := VSweep.zero }
theorem freshTs_get {k i : Nat} {t : VWorker} (h : (freshTs k)[i]? = some t) : i < k ∧ t = VWorker.new i := by
  have hi : i < k := by have := (List.getElem?_eq_some_iff.1 h).1; simpa [freshTs] using this
  refine ⟨hi, ?_⟩
  simp [freshTs, hi] at h
  exact h.symm
theorem freshTs_len (k : Nat) : (freshTs k).length = k := by simp [freshTs]

/-- While the threads grow. -/
structure XGrows (w wr : World) (kd l : Int) (s : Nat) (ml : MLay) (tv : Value) (wks : List Nat) (M : PMem) : Prop where
  hd : At wr s [.int .i64 kd, .int .i64 l, .int .i64 0, .pointer (some ⟨ml.m, 0, none⟩), tv, .int .i64 0, .int .i64 0, .slice none 0 0, .bool false, .int .i64 0] 48
  mem : MAt wr ml M
  thr : wr.ownsRow w.heap.size 50 1 tv wks.length (ptrs wks)
  wk : ∀ i b : Nat, wks[i]? = some b → At wr b (VWorker.new i).cells 62
  apart : wks.Nodup
  new : ∀ b, b ∈ wks → w.heap.size ≤ b
  fr : Fr (fun _ => False) w wr
  hs : w.heap.size ≤ s

section
variable {w wr w1 : World} {kd l : Int} {s : Nat} {ml : MLay} {tv : Value} {wks : List Nat} {M : PMem}
theorem XGrows.push (h : XGrows w wr kd l s ml tv wks M) {g cap b : Nat} {v : List Value} (hb : b = wr.heap.size)
    (ho : w1.ownsRow w.heap.size 50 1 (.slice (some ⟨g, 0, none⟩) (wks.length + 1) cap) (wks.length + 1) (ptrs wks ++ [.pointer (some ⟨b, 0, none⟩)]))
    (hg : ((wr.alloc (.cells (VWorker.new wks.length).cells.toArray 62)).alloc (.cells v.toArray 50)).grownBy w1 tv.ownBlock) :
    At w1 s [.int .i64 kd, .int .i64 l, .int .i64 0, .pointer (some ⟨ml.m, 0, none⟩), tv, .int .i64 0, .int .i64 0, .slice none 0 0, .bool false, .int .i64 0] 48 ∧
    XGrows w (w1.setCell ⟨s, 4, none⟩ (.slice (some ⟨g, 0, none⟩) (wks.length + 1) cap)) kd l s ml (.slice (some ⟨g, 0, none⟩) (wks.length + 1) cap) (wks ++ [b]) M := by
  subst hb
  have hA : At w1 s [.int .i64 kd, .int .i64 l, .int .i64 0, .pointer (some ⟨ml.m, 0, none⟩), tv, .int .i64 0, .int .i64 0, .slice none 0 0, .bool false, .int .i64 0] 48 := ((h.hd.alloc _).alloc _).grown hg (h.hd.ne_row (ownsRow_base h.thr) (by decide))
  have hrow : ∀ k, tv.ownBlock = some k → w.heap.size ≤ k ∧ k < wr.heap.size := h.thr.lt
  have hM : MAt w1 ml M := by
    refine ⟨((h.mem.hd.alloc _).alloc _).grown hg (h.mem.hd.ne_row (ownsRow_base h.thr) (by decide)), ((h.mem.nodes.alloc _).alloc _).kept hg ?_, ((h.mem.ents.alloc _).alloc _).kept hg ?_, h.mem.nsmall, h.mem.esmall⟩
    · exact ownsRow_ne h.mem.nodes (ownsRow_base h.thr) (by decide)
    · exact ownsRow_ne h.mem.ents (ownsRow_base h.thr) (by decide)
  have hW : ∀ i b : Nat, (wks ++ [wr.heap.size])[i]? = some b → At w1 b (VWorker.new i).cells 62 := by
    intro i b hi
    by_cases hlt : i < wks.length
    · rw [List.getElem?_append_left hlt] at hi
      exact (((h.wk i b hi).alloc _).alloc _).grown hg ((h.wk i b hi).ne_row (ownsRow_base h.thr) (by decide))
    · have hi' : i = wks.length := by
        have := (List.getElem?_eq_some_iff.1 hi).1
        simp at this; omega
      subst hi'
      simp at hi; subst hi
      have hnew := (At.new wr (VWorker.new wks.length).cells 62).alloc (.cells v.toArray 50)
      refine hnew.grown hg ?_
      intro he
      have := (hrow _ he).2
      omega
  refine ⟨hA, hA.set 4 _, ?_, ?_, ?_, ?_, ?_, ?_, h.hs⟩
  · exact ⟨(MemAt.hd hM).setOther _ ((MemAt.hd hM).ne hA (by decide)) _, ownsRow_setOther (MemAt.nodes hM) (hA.ne_row (MemAt.nodes hM) (by decide)) _, ownsRow_setOther (MemAt.ents hM) (hA.ne_row (MemAt.ents hM) (by decide)) _, (MemAt.nsmall hM), (MemAt.esmall hM)⟩
  · have e : ptrs (wks ++ [wr.heap.size]) = ptrs wks ++ [.pointer (some ⟨wr.heap.size, 0, none⟩)] := by simp [ptrs]
    rw [e, List.length_append]
    exact ownsRow_setOtherB ho (hA.ne_row (ownsRow_base ho) (by decide)) _
  · intro i b hi
    exact (hW i b hi).setOther _ ((hW i b hi).ne hA (by decide)) _
  · rw [List.nodup_append]
    refine ⟨h.apart, by simp, ?_⟩
    intro a ha b hb
    simp at hb; subst hb
    obtain ⟨i, hi⟩ := List.getElem?_of_mem ha
    have := (h.wk i a hi).lt
    omega
  · intro b hb
    simp at hb
    rcases hb with hb | rfl
    · exact h.new b hb
    · exact h.fr.size
  · exact Fr.setNew h.hs (((h.fr.alloc _).alloc _).grown hg (fun k hk => .inr (hrow k hk).1)) _ _
end

set_option maxHeartbeats 4000000 in
set_option maxRecDepth 100000 in
theorem XNew_yes (k t n e l : Int) (w : World) (hok : okCfg k t n e l = true) :
    Calls Try.prog 6 #[cfg k t n e l] w fun r w' => ∃ L : XLay, r = .returned (.tuple #[.pointer (some ⟨L.s, 0, none⟩), .int .i64 0]) ∧ XAt w' L (freshX k t n e l) ∧ Fr (fun _ => False) w w' ∧ ∀ b, L.own b → w.heap.size ≤ b := by
  have Hok : Hid (okCfg k t n e l = true) := hok
  have hb : (0 ≤ k ∧ k ≤ 1) ∧ (1 ≤ t ∧ t ≤ 8) ∧ (0 ≤ n ∧ n ≤ 64) ∧ (1 ≤ e ∧ e ≤ 256) ∧ (0 ≤ l ∧ l ≤ 1099511627776) := by
    simp only [okCfg, Bool.and_eq_true, isIn_iff] at hok
    omega
  obtain ⟨⟨k0, k1⟩, ⟨t0, t1⟩, ⟨n0, n1⟩, ⟨e0, e1⟩, ⟨l0, l1⟩⟩ := hb
  obtain ⟨t, rfl⟩ := Int.eq_ofNat_of_zero_le (show 0 ≤ t by omega)
  obtain ⟨n, rfl⟩ := Int.eq_ofNat_of_zero_le n0
  obtain ⟨e, rfl⟩ := Int.eq_ofNat_of_zero_le (show 0 ≤ e by omega)
  obtain ⟨iW, hiW, hzW, hsW, hbW⟩ := info_parts Try.infoWorkerPtr
  clear hok
  unfold cfg
  go_enter Try.func6, Try.ntmps6
  go_wp2_with fail
  refine (isConfig_calls k t n e l _).mono ?_
  rintro r w1 ⟨rfl, hF⟩
  rw [Hok.out]
  have hC : At w1 w.heap.size [.int .i64 k, .int .i64 t, .int .i64 n, .int .i64 e, .int .i64 l] 23 := hF.at (At.new w _ _) (fun h => h)
  have hcc := hC.cell
  have hF1 : Hid (Fr (fun _ => False) w w1) := ((Fr.refl _ _).alloc _).trans hF
  have HC := (show Hid (At w1 w.heap.size _ _) from hC)
  have hsz1 := hC.lt
  clear hF hC
  go_wp2_with fail
  refine (MNew_calls _ n e (by omega) (by omega) (by omega)).mono ?_
  rintro r w2 ⟨ml, rfl, hM, hF2, hm, hnb, heb⟩
  have hS : At w2 w1.heap.size [.int .i64 k, .int .i64 l, .int .i64 0, .pointer none, .slice none 0 0, .int .i64 0, .int .i64 0, .slice none 0 0, .bool false, .int .i64 0] 48 := hF2.at (At.new w1 _ _) (fun h => h)
  have hC2 : At w2 w.heap.size [.int .i64 k, .int .i64 t, .int .i64 n, .int .i64 e, .int .i64 l] 23 := hF2.at (HC.out.alloc _) (fun h => h)
  have hFt : Fr (fun _ => False) w w2 := (hF1.out.alloc _).trans hF2
  simp only [World.size_alloc] at hm hnb heb
  have hne : w.heap.size ≠ w1.heap.size := by omega
  have G0 : XGrows w (w2.setCell ⟨w1.heap.size, 3, none⟩ (.pointer (some ⟨ml.m, 0, none⟩))) k l w1.heap.size ml (.slice none 0 0) [] (freshMem n e) := by
    refine ⟨hS.set 3 _, ?_, World.ownsRow_nil _ _ _ _, by intro i b h; simp at h, by simp, by intro b h; simp at h, Fr.setNew (by omega) hFt _ _, by omega⟩
    exact ⟨(MemAt.hd hM).setOther _ ((MemAt.hd hM).ne hS (by decide)) _, ownsRow_setOther (MemAt.nodes hM) (hS.ne_row (MemAt.nodes hM) (by decide)) _, ownsRow_setOther (MemAt.ents hM) (hS.ne_row (MemAt.ents hM) (by decide)) _, (MemAt.nsmall hM), (MemAt.esmall hM)⟩
  have HG0 := (show Hid (XGrows _ _ _ _ _ _ _ _ _) from G0)
  have HC2 := (show Hid (At (w2.setCell ⟨w1.heap.size, 3, none⟩ (.pointer (some ⟨ml.m, 0, none⟩))) w.heap.size _ _) from hC2.setOther _ hne _)
  have hcs := hS.cell
  have hzs := hS.frozen
  clear hcc hC2 hM hF2 HC G0 hFt hS hF1
  go_wp2_with fail
  clear hcs hzs
  go_loopw [5] (fun i wr => ∃ (j : Nat) (tv : Value) (wks : List Nat), j ≤ t ∧ wks.length = j ∧ i = .int .i64 j ∧ Hid (At wr w.heap.size [.int .i64 k, .int .i64 t, .int .i64 n, .int .i64 e, .int .i64 l] 23) ∧
      Hid (XGrows w wr k l w1.heap.size ml tv wks (freshMem n e))) (fun i _ => t - (intOf i).toNat)
  case atStart => exact ⟨0, _, [], Nat.zero_le _, rfl, rfl, HC2, HG0⟩
  case round =>
    clear HG0 HC2
    obtain ⟨j, tv, wks, hj, hwl, rfl, HC, HG⟩ := hrel
    have hcc := HC.out.cell
    have hcs := HG.out.hd.cell
    have hzs := HG.out.hd.frozen
    have hsz := HG.out.fr.size
    have hl1 := HG.out.hd.lt
    by_cases hjt : j < t
    · subst hwl
      go_wp2_with (at_builtin; refine wpList_push _ rfl _ _ 43 rfl w.heap.size 50 iW (.pointer none) 1 8 Try.underlying43 hiW hzW hsW hbW rfl (by decide) _ _ _ rfl (ownsRow_alloc (ownsRow_alloc HG.out.thr _) _) (wr.heap.size + 1) [.pointer (some ⟨wr.heap.size, 0, none⟩)] rfl rfl 50 (At.newAt (by simp) _ _) (by simp [Value.oneCell']) (by unfold maxLen; omega) (by omega) (by simp; omega) ?_)
      intro g cap w' hown hg hge
      have R := HG.out.push (b := wr.heap.size) (v := [.pointer (some ⟨wr.heap.size, 0, none⟩)]) rfl hown hg
      have hC' : At w' w.heap.size [.int .i64 k, .int .i64 t, .int .i64 n, .int .i64 e, .int .i64 l] 23 := ((HC.out.alloc _).alloc _).grown hg (HC.out.ne_row (ownsRow_base HG.out.thr) (by decide))
      obtain ⟨hA, hG⟩ := R
      have hcc := hC'.cell
      have hcs := hA.cell
      have hzs := hA.frozen
      have HG' := (show Hid (XGrows _ _ _ _ _ _ _ _ _) from hG)
      have HC' := (show Hid (At (w'.setCell ⟨w1.heap.size, 4, none⟩ (.slice (some ⟨g, 0, none⟩) (wks.length + 1) cap)) w.heap.size _ _) from hC'.setOther _ hne _)
      clear hA hown hg hG HG HC hC' hsz hl1
      go_wp2
      go_roundw
      case rel => exact ⟨wks.length + 1, _, _, by omega, by simp, by go_num, HC', HG'⟩
      case measure => simp [intOf]; omega
    · have hjt' : j = t := by omega
      subst hjt'
      obtain ⟨tb, tcap, rfl, _⟩ := ownsRow_shape (ownsRow_base HG.out.thr) (by omega)
      have hX : XAt wr ⟨w1.heap.size, ml, tb, tcap, wks⟩ (freshX k j n e l) := by
        refine ⟨?_, ?_, ?_, ?_, ?_, ?_, HG.out.apart⟩
        · simp only [freshX, Int.toNat_natCast, freshTs_len]; rw [← hwl]; exact HG.out.hd
        · simp only [freshX, Int.toNat_natCast]; exact HG.out.mem
        · simp only [freshX, Int.toNat_natCast, freshTs_len]; rw [← hwl]; exact ownsRow_base HG.out.thr
        · simp only [freshX, Int.toNat_natCast, freshTs_len]; exact hwl
        · intro i b t' hb ht
          simp only [freshX, Int.toNat_natCast] at ht
          obtain ⟨_, rfl⟩ := freshTs_get ht
          exact HG.out.wk i b hb
        · simp only [freshX, Int.toNat_natCast, freshTs_len]; omega
      have HX := (show Hid (XAt _ _ _) from hX)
      have hF := (show Hid (Fr _ _ _) from HG.out.fr)
      have hnew := (show Hid (∀ b, b ∈ wks → w.heap.size ≤ b) from HG.out.new)
      have htb := (HG.out.thr.lt tb rfl).1
      clear hX HG hcs hzs hsz hl1
      go_wp2
      go_ret2
      refine ⟨⟨w1.heap.size, ml, tb, tcap, wks⟩, rfl, HX.out, hF.out, ?_⟩
      intro b hb
      simp only [XLay.own] at hb
      rcases hb with rfl | rfl | rfl | rfl | rfl | hb
      · omega
      · omega
      · omega
      · omega
      · omega
      · exact hnew.out b hb
end Go.Proofs.Ytfccelbmacjifaa
