import Derived.Test.YtfccelbmacjifaaGreatP10
import Derived.Test.YtfccelbmacjifaaGreatP12
namespace Go.Proofs.YtfccelbmacjifaaGreat
open Go.RowKit

/-- An answer, its lists as a value. -/
structure RAns where
  err : Int
  did : Bool
  value : Int
  stamp : Int
  spans : Value
def RAns.cells (a : RAns) : List Value := [.int .i64 a.err, .bool a.did, .int .i64 a.value, .int .i64 a.stamp, a.spans]
def RAns.zero : RAns := ⟨0, false, 0, 0, .slice none 0 0⟩

/-- A slice as it stands in a cell. -/
structure Sl where
  a : Option Addr
  n : Nat
  c : Nat
def Sl.v (s : Sl) : Value := .slice s.a s.n s.c
def Sl.nil : Sl := ⟨none, 0, 0⟩

structure RSpot where
  id : Int
  leaf : Bool
  key : Int
  value : Int
  now0 : Int
  now1 : Int
  st0 : Sl
  st1 : Sl
  open0 : Bool
  open1 : Bool
  dead : Bool
  owner : Int
  out : Int
  free : Bool
def RSpot.cells (x : RSpot) : List Value :=
  [.int .i64 x.id, .bool x.leaf, .int .i64 x.key, .int .i64 x.value, .int .i64 x.now0, .int .i64 x.now1, .slice x.st0.a x.st0.n x.st0.c, .slice x.st1.a x.st1.n x.st1.c, .bool x.open0, .bool x.open1,
   .bool x.dead, .int .i64 x.owner, .int .i64 x.out, .bool x.free]

structure RThread where
  okind : Int
  okey : Int
  ovalue : Int
  ospans : Sl
  busy : Bool
  has : Bool
  at_ : Int
  slot : Int
  t : Int
  g : Int
  gs : Int
  x : Int
  xs : Int
  c : Int
  want : Sl
  have_ : Int
  src : Int
  side : Int
  dst : Int
  new : Sl
  hid : Int
  hside : Int
  hkey : Int
  todo : Sl
  found : Sl
  ans : RAns
  last : RAns
def RThread.cells (t : RThread) : List Value :=
  [.int .i64 t.okind, .int .i64 t.okey, .int .i64 t.ovalue, t.ospans.v, .bool t.busy, .bool t.has, .int .i64 t.at_, .int .i64 t.slot, .int .i64 t.t, .int .i64 t.g, .int .i64 t.gs, .int .i64 t.x, .int .i64 t.xs, .int .i64 t.c, t.want.v,
   .int .i64 t.have_, .int .i64 t.src, .int .i64 t.side, .int .i64 t.dst, t.new.v, .int .i64 t.hid, .int .i64 t.hside, .int .i64 t.hkey, t.todo.v, t.found.v,
   .int .i64 t.ans.err, .bool t.ans.did, .int .i64 t.ans.value, .int .i64 t.ans.stamp, t.ans.spans, .int .i64 t.last.err, .bool t.last.did, .int .i64 t.last.value, .int .i64 t.last.stamp, t.last.spans]
def RThread.new0 : RThread := ⟨0, 0, 0, Sl.nil, false, false, 0, -1, 0, 0, 0, 0, 0, 0, Sl.nil, 0, 0, 0, 0, Sl.nil, 0, 0, 0, Sl.nil, Sl.nil, RAns.zero, RAns.zero⟩

structure RLay where
  s : Nat
  sv : Value
  sps : List Nat
  lv : Value
  tv : Value
  ths : List Nat
  rv : Value
structure RSt where
  kind : Int
  threads : Int
  nodes : Int
  entries : Int
  limit : Int
  clock : Int
  spots : List RSpot
  ts : List RThread
structure RAt (w : World) (L : RLay) (R : RSt) : Prop where
  hd : At w L.s [.int .i64 R.kind, .int .i64 R.threads, .int .i64 R.nodes, .int .i64 R.entries, .int .i64 R.limit, .int .i64 R.clock, L.sv, L.lv, L.tv, L.rv] 123
  sp : w.ownsRow 0 125 1 L.sv R.spots.length (ptrs L.sps)
  slen : L.sps.length = R.spots.length
  spot : ∀ (i b : Nat) (x : RSpot), L.sps[i]? = some b → R.spots[i]? = some x → At w b x.cells 130
  sapart : L.sps.Nodup
  th : w.ownsRow 0 131 1 L.tv R.ts.length (ptrs L.ths)
  tlen : L.ths.length = R.ts.length
  thr : ∀ (i b : Nat) (t : RThread), L.ths[i]? = some b → R.ts[i]? = some t → At w b t.cells 136
  tapart : L.ths.Nodup
def RLay.own (L : RLay) (k : Nat) : Prop := k = L.s ∨ L.sv.ownBlock = some k ∨ L.tv.ownBlock = some k ∨ k ∈ L.sps ∨ k ∈ L.ths

section
variable {w w' : World} {L : RLay} {R : RSt}
theorem RAt.fr {S : Nat → Prop} (h : RAt w L R) (hf : Fr S w w') (hS : ∀ k, L.own k → ¬ S k) : RAt w' L R := by
  refine ⟨hf.at h.hd (hS _ (.inl rfl)), hf.owns h.sp (fun k hk => hS k (.inr (.inl hk))), h.slen, ?_, h.sapart, hf.owns h.th (fun k hk => hS k (.inr (.inr (.inl hk)))), h.tlen, ?_, h.tapart⟩
  · intro i b x hb hx
    exact hf.at (h.spot i b x hb hx) (hS _ (.inr (.inr (.inr (.inl (List.mem_of_getElem? hb))))))
  · intro i b t hb ht
    exact hf.at (h.thr i b t hb ht) (hS _ (.inr (.inr (.inr (.inr (List.mem_of_getElem? hb))))))
theorem RAt.thread (h : RAt w L R) {i : Nat} {t : RThread} (ht : R.ts[i]? = some t) : ∃ b tb cap, L.ths[i]? = some b ∧ L.tv = .slice (some ⟨tb, 0, none⟩) R.ts.length cap ∧ w.cell? ⟨tb, i, none⟩ = some (.pointer (some ⟨b, 0, none⟩)) ∧ At w b t.cells 136 := by
  have hi : i < L.ths.length := by rw [h.tlen]; exact (List.getElem?_eq_some_iff.1 ht).1
  have hb := List.getElem?_eq_getElem hi
  obtain ⟨tb, cap, hv, _⟩ := ownsRow_shape h.th (by rw [← h.tlen]; omega)
  have ho := h.th
  rw [hv] at ho
  exact ⟨L.ths[i], tb, cap, hb, hv, ownsRow_cell ho (ptrs_get hb), h.thr i _ t hb ht⟩
theorem RAt.spotAt (h : RAt w L R) {i : Nat} {x : RSpot} (hx : R.spots[i]? = some x) : ∃ b sb cap, L.sps[i]? = some b ∧ L.sv = .slice (some ⟨sb, 0, none⟩) R.spots.length cap ∧ w.cell? ⟨sb, i, none⟩ = some (.pointer (some ⟨b, 0, none⟩)) ∧ At w b x.cells 130 := by
  have hi : i < L.sps.length := by rw [h.slen]; exact (List.getElem?_eq_some_iff.1 hx).1
  have hb := List.getElem?_eq_getElem hi
  obtain ⟨sb, cap, hv, _⟩ := ownsRow_shape h.sp (by rw [← h.slen]; omega)
  have ho := h.sp
  rw [hv] at ho
  exact ⟨L.sps[i], sb, cap, hb, hv, ownsRow_cell ho (ptrs_get hb), h.spot i _ x hb hx⟩
end

theorem Tryz.infoSpotPtrR : (Tryz.prog.info? 125).map (fun i => (i.zero, i.size, i.bytes)) = some (some (.pointer none), 1, 8) := by kernel_rfl
theorem Tryz.infoThreadPtr : (Tryz.prog.info? 131).map (fun i => (i.zero, i.size, i.bytes)) = some (some (.pointer none), 1, 8) := by kernel_rfl

set_option maxHeartbeats 400000 in
theorem rbetween_calls (n a b : Int) (w : World) :
    Calls Tryz.prog 64 #[.int .i64 n, .int .i64 a, .int .i64 b] w fun e w' => e = .returned (.bool (isIn n a b)) ∧ w' = w := by
  by_cases h1 : a ≤ n
  · by_cases h2 : n ≤ b
    · go_enter Tryz.func64, Tryz.ntmps64
      go_wp2
      go_ret
      exact ⟨ret_bool (isIn_true (by omega)).symm, rfl⟩
    · go_enter Tryz.func64, Tryz.ntmps64
      go_wp2
      go_ret
      exact ⟨ret_bool (isIn_false (by omega)).symm, rfl⟩
  · go_enter Tryz.func64, Tryz.ntmps64
    go_wp2
    go_ret
    exact ⟨ret_bool (isIn_false (by omega)).symm, rfl⟩

section
variable {w w1 : World} {L : RLay} {R : RSt}
/-- A new spot at the list's end. -/
theorem RAt.pushSpot (h : RAt w L R) {b : Nat} {x : RSpot} (hb : At w b x.cells 130) (hnb : b ∉ L.sps) {g cap : Nat} {v : List Value}
    (ho : w1.ownsRow 0 125 1 (.slice (some ⟨g, 0, none⟩) (R.spots.length + 1) cap) (R.spots.length + 1) (ptrs L.sps ++ [.pointer (some ⟨b, 0, none⟩)]))
    (hg : (w.alloc (.cells v.toArray 125)).grownBy w1 L.sv.ownBlock) :
    At w1 L.s [.int .i64 R.kind, .int .i64 R.threads, .int .i64 R.nodes, .int .i64 R.entries, .int .i64 R.limit, .int .i64 R.clock, L.sv, L.lv, L.tv, L.rv] 123 ∧
    RAt (w1.setCell ⟨L.s, 6, none⟩ (.slice (some ⟨g, 0, none⟩) (R.spots.length + 1) cap)) { L with sv := .slice (some ⟨g, 0, none⟩) (R.spots.length + 1) cap, sps := L.sps ++ [b] } { R with spots := R.spots ++ [x] } := by
  have hA := (h.hd.alloc (.cells v.toArray 125)).grown hg (h.hd.ne_row h.sp (by decide))
  have hS : ∀ (i b' : Nat) (y : RSpot), (L.sps ++ [b])[i]? = some b' → (R.spots ++ [x])[i]? = some y → At w1 b' y.cells 130 := by
    intro i b' y hi hy
    by_cases hlt : i < L.sps.length
    · rw [List.getElem?_append_left hlt] at hi
      rw [List.getElem?_append_left (by rw [← h.slen]; exact hlt)] at hy
      exact ((h.spot i b' y hi hy).alloc _).grown hg ((h.spot i b' y hi hy).ne_row h.sp (by decide))
    · have hi' : i = L.sps.length := by
        have := (List.getElem?_eq_some_iff.1 hi).1
        simp at this; omega
      subst hi'
      simp at hi; subst hi
      rw [h.slen] at hy
      simp at hy; subst hy
      exact (hb.alloc _).grown hg (hb.ne_row h.sp (by decide))
  have hT : w1.ownsRow 0 131 1 L.tv R.ts.length (ptrs L.ths) := (h.th.alloc _).kept hg (ownsRow_ne h.th h.sp (by decide))
  have hth : ∀ (i b : Nat) (t : RThread), L.ths[i]? = some b → R.ts[i]? = some t → At w1 b t.cells 136 := fun i b t hi ht =>
    ((h.thr i b t hi ht).alloc _).grown hg ((h.thr i b t hi ht).ne_row h.sp (by decide))
  refine ⟨hA, hA.set 6 _, ?_, by simp [h.slen], ?_, ?_, ?_, h.tlen, ?_, h.tapart⟩
  · have e : ptrs (L.sps ++ [b]) = ptrs L.sps ++ [.pointer (some ⟨b, 0, none⟩)] := by simp [ptrs]
    simp only [e, List.length_append, List.length_singleton]
    exact ownsRow_setOther ho (hA.ne_row ho (by decide)) _
  · intro i b' y hi hy
    exact (hS i b' y hi hy).setOther _ ((hS i b' y hi hy).ne hA (by decide)) _
  · rw [List.nodup_append]
    refine ⟨h.sapart, by simp, ?_⟩
    intro a ha c hc
    simp at hc; subst hc
    rintro rfl; exact hnb ha
  · exact ownsRow_setOther hT (hA.ne_row hT (by decide)) _
  · intro i b' t hi ht
    exact (hth i b' t hi ht).setOther _ ((hth i b' t hi ht).ne hA (by decide)) _
/-- A new thread at the list's end. -/
theorem RAt.pushThread (h : RAt w L R) {b : Nat} {x : RThread} (hb : At w b x.cells 136) (hnb : b ∉ L.ths) {g cap : Nat} {v : List Value}
    (ho : w1.ownsRow 0 131 1 (.slice (some ⟨g, 0, none⟩) (R.ts.length + 1) cap) (R.ts.length + 1) (ptrs L.ths ++ [.pointer (some ⟨b, 0, none⟩)]))
    (hg : (w.alloc (.cells v.toArray 131)).grownBy w1 L.tv.ownBlock) :
    At w1 L.s [.int .i64 R.kind, .int .i64 R.threads, .int .i64 R.nodes, .int .i64 R.entries, .int .i64 R.limit, .int .i64 R.clock, L.sv, L.lv, L.tv, L.rv] 123 ∧
    RAt (w1.setCell ⟨L.s, 8, none⟩ (.slice (some ⟨g, 0, none⟩) (R.ts.length + 1) cap)) { L with tv := .slice (some ⟨g, 0, none⟩) (R.ts.length + 1) cap, ths := L.ths ++ [b] } { R with ts := R.ts ++ [x] } := by
  have hA := (h.hd.alloc (.cells v.toArray 131)).grown hg (h.hd.ne_row h.th (by decide))
  have hS : ∀ (i b' : Nat) (y : RThread), (L.ths ++ [b])[i]? = some b' → (R.ts ++ [x])[i]? = some y → At w1 b' y.cells 136 := by
    intro i b' y hi hy
    by_cases hlt : i < L.ths.length
    · rw [List.getElem?_append_left hlt] at hi
      rw [List.getElem?_append_left (by rw [← h.tlen]; exact hlt)] at hy
      exact ((h.thr i b' y hi hy).alloc _).grown hg ((h.thr i b' y hi hy).ne_row h.th (by decide))
    · have hi' : i = L.ths.length := by
        have := (List.getElem?_eq_some_iff.1 hi).1
        simp at this; omega
      subst hi'
      simp at hi; subst hi
      rw [h.tlen] at hy
      simp at hy; subst hy
      exact (hb.alloc _).grown hg (hb.ne_row h.th (by decide))
  have hT : w1.ownsRow 0 125 1 L.sv R.spots.length (ptrs L.sps) := (h.sp.alloc _).kept hg (ownsRow_ne h.sp h.th (by decide))
  have hth : ∀ (i b : Nat) (t : RSpot), L.sps[i]? = some b → R.spots[i]? = some t → At w1 b t.cells 130 := fun i b t hi ht =>
    ((h.spot i b t hi ht).alloc _).grown hg ((h.spot i b t hi ht).ne_row h.th (by decide))
  refine ⟨hA, hA.set 8 _, ?_, h.slen, ?_, h.sapart, ?_, by simp [h.tlen], ?_, ?_⟩
  · exact ownsRow_setOther hT (hA.ne_row hT (by decide)) _
  · intro i b' t hi ht
    exact (hth i b' t hi ht).setOther _ ((hth i b' t hi ht).ne hA (by decide)) _
  · have e : ptrs (L.ths ++ [b]) = ptrs L.ths ++ [.pointer (some ⟨b, 0, none⟩)] := by simp [ptrs]
    simp only [e, List.length_append, List.length_singleton]
    exact ownsRow_setOther ho (hA.ne_row ho (by decide)) _
  · intro i b' y hi hy
    exact (hS i b' y hi hy).setOther _ ((hS i b' y hi hy).ne hA (by decide)) _
  · rw [List.nodup_append]
    refine ⟨h.tapart, by simp, ?_⟩
    intro a ha c hc
    simp at hc; subst hc
    rintro rfl; exact hnb ha
end

set_option maxHeartbeats 1000000 in
set_option maxRecDepth 100000 in
theorem rspot_calls {w : World} {L : RLay} {R : RSt} (h : RAt w L R) {b : Nat} {x : RSpot} (hb : At w b x.cells 130) (hnb : b ∉ L.sps) (hn : R.spots.length < 2 ^ 42) :
    Calls Tryz.prog 65 #[.pointer (some ⟨L.s, 0, none⟩), .pointer (some ⟨b, 0, none⟩)] w fun e w' => ∃ g cap, e = .returned (.int .i64 R.spots.length) ∧
      RAt w' { L with sv := .slice (some ⟨g, 0, none⟩) (R.spots.length + 1) cap, sps := L.sps ++ [b] } { R with spots := R.spots ++ [{ x with owner := -1, out := -1 }] } ∧
      Fr (fun k => k = L.s ∨ k = b ∨ L.sv.ownBlock = some k) w w' ∧ (L.sv.ownBlock = some g ∨ w.heap.size ≤ g) := by
  obtain ⟨iS, hiS, hzS, hsS, hbS⟩ := info_parts Tryz.infoSpotPtrR
  have hc := h.hd.cell
  have hz := h.hd.frozen
  have hcb := hb.cell
  have hzb := hb.frozen
  have hlb := hb.lt
  have hls := h.hd.lt
  have hne : b ≠ L.s := hb.ne h.hd (by decide)
  have hne' := hne.symm
  have HR := (show Hid (RAt w L R) from h)
  have Hb := (show Hid (At w b x.cells _) from hb)
  clear h hb
  simp only [RSpot.cells] at hcb
  have hown : ∀ k, L.own k → ¬ k = b := by
    intro k hk e
    subst e
    rcases hk with hk | hk | hk | hk | hk
    · exact hne hk
    · exact Hb.out.ne_row HR.out.sp (by decide) hk
    · exact Hb.out.ne_row HR.out.th (by decide) hk
    · exact hnb hk
    · obtain ⟨i, hi⟩ := List.getElem?_of_mem hk
      have hil : i < R.ts.length := by rw [← HR.out.tlen]; exact (List.getElem?_eq_some_iff.1 hi).1
      exact Hb.out.ne (HR.out.thr i _ _ hi (List.getElem?_eq_getElem hil)) (by decide) rfl
  have hF0 : Fr (fun k => k = b) w ((w.setCell ⟨b, 11, none⟩ (.int .i64 (-1))).setCell ⟨b, 12, none⟩ (.int .i64 (-1))) := Fr.set1 (Fr.set1 (Fr.refl _ _) _ _) _ _
  have HR0 := (show Hid (RAt ((w.setCell ⟨b, 11, none⟩ (.int .i64 (-1))).setCell ⟨b, 12, none⟩ (.int .i64 (-1))) L R) from HR.out.fr hF0 hown)
  have Hb0 := (show Hid (At ((w.setCell ⟨b, 11, none⟩ (.int .i64 (-1))).setCell ⟨b, 12, none⟩ (.int .i64 (-1))) b ({ x with owner := -1, out := -1 } : RSpot).cells 130) from (Hb.out.set 11 _).set 12 _)
  have HF0 := (show Hid (Fr (fun k => k = b) w _) from hF0)
  clear hF0 HR hown Hb
  go_enter Tryz.func65, Tryz.ntmps65
  go_wp2_with (at_builtin; refine wpList_push _ rfl _ _ 119 rfl 0 125 iS (.pointer none) 1 8 Tryz.underlying119 hiS hzS hsS hbS rfl (by decide) _ _ _ rfl (ownsRow_alloc HR0.out.sp _) w.heap.size [.pointer (some ⟨b, 0, none⟩)] rfl rfl 125 (At.newAt (by simp) _ _) (by simp [Value.oneCell']) (by unfold maxLen; omega) (by omega) (by simp) ?_)
  intro g cap w1 hown hg hge
  have R1 := HR0.out.pushSpot Hb0.out hnb (v := [.pointer (some ⟨b, 0, none⟩)]) hown hg
  obtain ⟨hA, hR⟩ := R1
  have hgn : L.sv.ownBlock = some g ∨ w.heap.size ≤ g := by
    rcases hge with h | h
    · exact .inl h
    · right; first | omega | (simp at h; omega)
  have hFr : Fr (fun k => k = L.s ∨ k = b ∨ L.sv.ownBlock = some k) w (w1.setCell ⟨L.s, 6, none⟩ (.slice (some ⟨g, 0, none⟩) (R.spots.length + 1) cap)) :=
    Fr.setIn (.inl rfl) (((HF0.out.mono (fun k _ hk => .inr (.inl hk))).alloc _).grown hg (fun k hk => .inl (.inr (.inr hk)))) _ _
  have hc := hA.cell
  have hz := hA.frozen
  have HR' := (show Hid (RAt _ _ _) from hR)
  have HF' := (show Hid (Fr _ _ _) from hFr)
  clear hA hR hFr hown hg HF0 HR0 Hb0 hge hcb hzb
  go_wp2
  go_ret
  refine ⟨g, cap, ret_int (by omega), HR'.out, HF'.out, hgn⟩
end Go.Proofs.YtfccelbmacjifaaGreat

namespace Go.Proofs.YtfccelbmacjifaaGreat
open Go.RowKit

theorem okCfg_parts {k t n e l : Int} (hok : okCfg k t n e l = true) : (0 ≤ k ∧ k ≤ 1) ∧ (1 ≤ t ∧ t ≤ 8) ∧ (0 ≤ n ∧ n ≤ 64) ∧ (1 ≤ e ∧ e ≤ 256) ∧ (0 ≤ l ∧ l ≤ 1099511627776) := by
  simp only [okCfg, Bool.and_eq_true, isIn_iff] at hok
  omega

set_option maxHeartbeats 2000000 in
theorem RNew_no (k t n e l : Int) (w : World) (hok : okCfg k t n e l = false) :
    Calls Tryz.prog 27 #[cfg k t n e l] w fun r w' => r = .returned (.tuple #[.pointer none, .int .i64 1]) ∧ Fr (fun _ => False) w w' := by
  unfold cfg
  cases hk : isIn k 0 1
  · clear hok
    go_enter Tryz.func27, Tryz.ntmps27
    go_wp2_with (go_at_call 64; refine (rbetween_calls _ _ _ _).mono ?_; rintro e w' ⟨rfl, rfl⟩)
    go_ret2
    exact ⟨rfl, (Fr.refl _ _).alloc _⟩
  · cases ht : isIn t 1 8
    · clear hok
      go_enter Tryz.func27, Tryz.ntmps27
      go_wp2_with (go_at_call 64; refine (rbetween_calls _ _ _ _).mono ?_; rintro e w' ⟨rfl, rfl⟩)
      go_ret2
      exact ⟨rfl, (Fr.refl _ _).alloc _⟩
    · cases hn : isIn n 0 64
      · clear hok
        go_enter Tryz.func27, Tryz.ntmps27
        go_wp2_with (go_at_call 64; refine (rbetween_calls _ _ _ _).mono ?_; rintro e w' ⟨rfl, rfl⟩)
        go_ret2
        exact ⟨rfl, (Fr.refl _ _).alloc _⟩
      · cases he : isIn e 1 256
        · clear hok
          go_enter Tryz.func27, Tryz.ntmps27
          go_wp2_with (go_at_call 64; refine (rbetween_calls _ _ _ _).mono ?_; rintro e w' ⟨rfl, rfl⟩)
          go_ret2
          exact ⟨rfl, (Fr.refl _ _).alloc _⟩
        · have hl : isIn l 0 1099511627776 = false := by
            simp only [okCfg, hk, ht, hn, he, Bool.true_and] at hok
            exact hok
          clear hok
          go_enter Tryz.func27, Tryz.ntmps27
          go_wp2_with (go_at_call 64; refine (rbetween_calls _ _ _ _).mono ?_; rintro e w' ⟨rfl, rfl⟩)
          go_ret2
          exact ⟨rfl, (Fr.refl _ _).alloc _⟩

def anchorSpot (b : Nat) : RSpot := ⟨0, false, 0, 0, 1, 1, ⟨some ⟨b, 0, none⟩, 1, 1⟩, Sl.nil, false, false, false, -1, -1, false⟩
def endSpot : RSpot := ⟨-1, true, 1099511627777, 0, 0, 0, Sl.nil, Sl.nil, false, false, false, -1, -1, false⟩
def freshR (k t n e l : Int) (b : Nat) : RSt := { kind := k, threads := t, nodes := n, entries := e, limit := l, clock := 0, spots := [anchorSpot b, endSpot], ts := List.replicate t.toNat RThread.new0 }

/-- What New's own memory is, besides. -/
structure RMore (w : World) (L : RLay) (b : Nat) : Prop where
  round : ∃ r, L.rv = .pointer (some ⟨r, 0, none⟩) ∧ At w r [.int .i64 1, .int .i64 0, .int .i64 0, .slice none 0 0, .slice none 0 0] 118
  log : L.lv = .slice none 0 0
  stamp : At w b [.int .i64 0] 3

def cfgCells (k t n e l : Int) : List Value := [.int .i64 k, .int .i64 t, .int .i64 n, .int .i64 e, .int .i64 l]
def roundCells : List Value := [.int .i64 1, .int .i64 0, .int .i64 0, .slice none 0 0, .slice none 0 0]

/-- While New makes the store: the settings' own block c, the round r, the first stamp's block b. -/
structure RGrows (w wr : World) (L : RLay) (R : RSt) (k t n e l : Int) (c b r : Nat) : Prop where
  R : RAt wr L R
  cf : At wr c (cfgCells k t n e l) 23
  rd : At wr r roundCells 118
  st : At wr b [.int .i64 0] 3
  rv : L.rv = .pointer (some ⟨r, 0, none⟩)
  lv : L.lv = .slice none 0 0
  fr : Fr (fun _ => False) w wr
  new : ∀ x, L.own x → w.heap.size ≤ x
  nb : w.heap.size ≤ b

theorem refStart (w : World) (k t n e l : Int) :
    RGrows w (((((w.alloc (.cells (cfgCells k t n e l).toArray 23)).alloc (.cells roundCells.toArray 118)).alloc
      (.cells #[.int .i64 k, .int .i64 t, .int .i64 n, .int .i64 e, .int .i64 l, .int .i64 0, .slice none 0 0, .slice none 0 0, .slice none 0 0, .pointer (some ⟨w.heap.size + 1, 0, none⟩)] 123)).alloc (.cells #[.int .i64 0] 3)).alloc
      (.cells ({ anchorSpot (w.heap.size + 1 + 1 + 1) with owner := 0, out := 0 } : RSpot).cells.toArray 130))
      ⟨w.heap.size + 1 + 1, .slice none 0 0, [], .slice none 0 0, .slice none 0 0, [], .pointer (some ⟨w.heap.size + 1, 0, none⟩)⟩
      { kind := k, threads := t, nodes := n, entries := e, limit := l, clock := 0, spots := [], ts := [] } k t n e l w.heap.size (w.heap.size + 1 + 1 + 1) (w.heap.size + 1) := by
  refine ⟨⟨?_, World.ownsRow_nil _ _ _ _, rfl, by intro i b x h; simp at h, by simp, World.ownsRow_nil _ _ _ _, rfl, by intro i b x h; simp at h, by simp⟩, ?_, ?_, ?_, rfl, rfl, ?_, ?_, by omega⟩
  · exact ((At.newAt (c := [_, _, _, _, _, _, _, _, _, _]) (by simp) _).alloc _).alloc _
  · exact ((((At.newAt (c := cfgCells k t n e l) rfl _).alloc _).alloc _).alloc _).alloc _
  · exact (((At.newAt (c := roundCells) (by simp) _).alloc _).alloc _).alloc _
  · exact (At.newAt (c := [_]) (by simp) _).alloc _
  · exact (((((Fr.refl _ _).alloc _).alloc _).alloc _).alloc _).alloc _
  · intro x hx
    simp only [RLay.own, Value.ownBlock, List.not_mem_nil, or_false] at hx
    rcases hx with rfl | h | h
    · omega
    · cases h
    · cases h

section
variable {w wr w' : World} {L : RLay} {R : RSt} {k t n e l : Int} {c b r : Nat}
theorem RGrows.alloc (h : RGrows w wr L R k t n e l c b r) (o : Obj) : RGrows w (wr.alloc o) L R k t n e l c b r :=
  have f : Fr (fun _ => False) wr (wr.alloc o) := (Fr.refl _ _).alloc _
  ⟨h.R.fr f (fun _ _ h => h), h.cf.alloc _, h.rd.alloc _, h.st.alloc _, h.rv, h.lv, h.fr.alloc _, h.new, h.nb⟩
/-- Behind 'spot'. -/
theorem RGrows.spotted (h : RGrows w wr L R k t n e l c b r) {x : Nat} {v : List Value} (hx : At wr x v 130) (hxn : w.heap.size ≤ x) {g cap : Nat} {y : RSpot}
    (hR : RAt w' { L with sv := .slice (some ⟨g, 0, none⟩) (R.spots.length + 1) cap, sps := L.sps ++ [x] } { R with spots := R.spots ++ [y] })
    (hF : Fr (fun k => k = L.s ∨ k = x ∨ L.sv.ownBlock = some k) wr w') (hg : L.sv.ownBlock = some g ∨ wr.heap.size ≤ g) :
    RGrows w w' { L with sv := .slice (some ⟨g, 0, none⟩) (R.spots.length + 1) cap, sps := L.sps ++ [x] } { R with spots := R.spots ++ [y] } k t n e l c b r := by
  have out : ∀ {i : Nat} {u : List Value} {ty : TypeId}, At wr i u ty → ty ≠ 123 → ty ≠ 130 → ty ≠ 125 → ¬ (i = L.s ∨ i = x ∨ L.sv.ownBlock = some i) := by
    intro i u ty hi h1 h2 h3 ho
    rcases ho with ho | ho | ho
    · exact hi.ne h.R.hd h1 ho
    · exact hi.ne hx h2 ho
    · exact hi.ne_row h.R.sp h3 ho
  refine ⟨hR, hF.at h.cf (out h.cf (by decide) (by decide) (by decide)), hF.at h.rd (out h.rd (by decide) (by decide) (by decide)), hF.at h.st (out h.st (by decide) (by decide) (by decide)), h.rv, h.lv, ?_, ?_, h.nb⟩
  · refine h.fr.transNew hF ?_
    intro i hi
    right
    rcases hi with rfl | rfl | hi
    · exact h.new _ (.inl rfl)
    · exact hxn
    · exact h.new _ (.inr (.inl hi))
  · intro i hi
    rcases hi with hi | hi | hi | hi | hi
    · exact h.new i (.inl hi)
    · simp only [Value.ownBlock, Option.some.injEq] at hi
      subst hi
      rcases hg with hg | hg
      · exact h.new _ (.inr (.inl hg))
      · have := h.fr.size; omega
    · exact h.new i (.inr (.inr (.inl hi)))
    · simp at hi
      rcases hi with hi | rfl
      · exact h.new i (.inr (.inr (.inr (.inl hi))))
      · exact hxn
    · exact h.new i (.inr (.inr (.inr (.inr hi))))
/-- Behind an append to the threads. -/
theorem RGrows.threaded (h : RGrows w wr L R k t n e l c b r) {g cap : Nat} {v : List Value} {y : RThread}
    (ho : w'.ownsRow 0 131 1 (.slice (some ⟨g, 0, none⟩) (R.ts.length + 1) cap) (R.ts.length + 1) (ptrs L.ths ++ [.pointer (some ⟨wr.heap.size, 0, none⟩)]))
    (hg : ((wr.alloc (.cells y.cells.toArray 136)).alloc (.cells v.toArray 131)).grownBy w' L.tv.ownBlock) (hgn : L.tv.ownBlock = some g ∨ wr.heap.size ≤ g) :
    At w' L.s [.int .i64 R.kind, .int .i64 R.threads, .int .i64 R.nodes, .int .i64 R.entries, .int .i64 R.limit, .int .i64 R.clock, L.sv, L.lv, L.tv, L.rv] 123 ∧ At w' c (cfgCells k t n e l) 23 ∧
    RGrows w (w'.setCell ⟨L.s, 8, none⟩ (.slice (some ⟨g, 0, none⟩) (R.ts.length + 1) cap)) { L with tv := .slice (some ⟨g, 0, none⟩) (R.ts.length + 1) cap, ths := L.ths ++ [wr.heap.size] } { R with ts := R.ts ++ [y] } k t n e l c b r := by
  have h1 := h.alloc (.cells y.cells.toArray 136)
  have hnb : wr.heap.size ∉ L.ths := by
    intro hm
    obtain ⟨i, hi⟩ := List.getElem?_of_mem hm
    have hil : i < R.ts.length := by rw [← h.R.tlen]; exact (List.getElem?_eq_some_iff.1 hi).1
    have := (h.R.thr i _ _ hi (List.getElem?_eq_getElem hil)).lt
    omega
  obtain ⟨hA, hR⟩ := h1.R.pushThread (At.new wr y.cells _) hnb ho hg
  have hrow : ∀ i, L.tv.ownBlock = some i → w.heap.size ≤ i := fun i hi => h.new i (.inr (.inr (.inl hi)))
  have hs := h.new _ (.inl rfl)
  have c1 := ((h1.cf.alloc (.cells v.toArray 131)).grown hg (h.cf.ne_row h.R.th (by decide)))
  have c2 := ((h1.rd.alloc (.cells v.toArray 131)).grown hg (h.rd.ne_row h.R.th (by decide)))
  have c3 := ((h1.st.alloc (.cells v.toArray 131)).grown hg (h.st.ne_row h.R.th (by decide)))
  refine ⟨hA, c1, hR, c1.setOther _ (c1.ne hA (by decide)) _, c2.setOther _ (c2.ne hA (by decide)) _, c3.setOther _ (c3.ne hA (by decide)) _, h.rv, h.lv, ?_, ?_, h.nb⟩
  · exact Fr.setNew hs ((h1.fr.alloc _).grown hg (fun i hi => .inr (hrow i hi))) _ _
  · intro i hi
    rcases hi with hi | hi | hi | hi | hi
    · exact h.new i (.inl hi)
    · exact h.new i (.inr (.inl hi))
    · simp only [Value.ownBlock, Option.some.injEq] at hi
      subst hi
      rcases hgn with hg | hg
      · exact hrow _ hg
      · have := h.fr.size; omega
    · exact h.new i (.inr (.inr (.inr (.inl hi))))
    · simp at hi
      rcases hi with hi | rfl
      · exact h.new i (.inr (.inr (.inr (.inr hi))))
      · exact h.fr.size
end

set_option maxHeartbeats 4000000 in
set_option maxRecDepth 100000 in
theorem RNew_full (k t n e l : Int) (w : World) (hok : okCfg k t n e l = true) :
    Calls Tryz.prog 27 #[cfg k t n e l] w fun r w' => ∃ (L : RLay) (b : Nat), r = .returned (.tuple #[.pointer (some ⟨L.s, 0, none⟩), .int .i64 0]) ∧ RAt w' L (freshR k t n e l b) ∧ RMore w' L b ∧ Fr (fun _ => False) w w' ∧ (∀ c, L.own c → w.heap.size ≤ c) ∧ w.heap.size ≤ b ∧ (∀ r, L.rv = .pointer (some ⟨r, 0, none⟩) → w.heap.size ≤ r) := by
  have hb := okCfg_parts hok
  obtain ⟨⟨k0, k1⟩, ⟨t0, t1⟩, ⟨n0, n1⟩, ⟨e0, e1⟩, ⟨l0, l1⟩⟩ := hb
  have b1 : isIn k 0 1 = true := isIn_true ⟨k0, k1⟩
  have b2 : isIn t 1 8 = true := isIn_true ⟨t0, t1⟩
  have b3 : isIn n 0 64 = true := isIn_true ⟨n0, n1⟩
  have b4 : isIn e 1 256 = true := isIn_true ⟨e0, e1⟩
  have b5 : isIn l 0 1099511627776 = true := isIn_true ⟨l0, l1⟩
  obtain ⟨t, rfl⟩ := Int.eq_ofNat_of_zero_le (show 0 ≤ t by omega)
  obtain ⟨iW, hiW, hzW, hsW, hbW⟩ := info_parts Tryz.infoThreadPtr
  clear hok
  unfold cfg
  go_enter Tryz.func27, Tryz.ntmps27
  go_wp2_with (go_at_call 64; refine (rbetween_calls _ _ _ _).mono ?_; rintro e w' ⟨rfl, rfl⟩)
  clear b1 b2 b3 b4 b5
  have G0 := refStart w k t n e l
  refine (rspot_calls G0.R (At.newAt (by simp) _ _) (by simp) (by simp)).mono ?_
  rintro r w1 ⟨g, cap, rfl, hR1, hF1, hg1⟩
  have G1 := G0.spotted (At.newAt (by simp) _ _) (by omega) hR1 hF1 hg1
  have HG1 := (show Hid (RGrows w w1 _ _ k t n e l w.heap.size (w.heap.size + 1 + 1 + 1) (w.heap.size + 1)) from G1)
  have hs1 := G1.fr.size
  clear G0 hR1 hF1 hg1 G1
  go_wp2_with fail
  have G1 := HG1.out.alloc (.cells ({ endSpot with owner := 0, out := 0 } : RSpot).cells.toArray 130)
  have hnb : w1.heap.size ∉ [w.heap.size + 1 + 1 + 1 + 1] := by
    intro hm
    simp at hm
    have := (HG1.out.R.spot 0 _ _ rfl rfl).lt
    omega
  refine (rspot_calls G1.R (At.newAt rfl ({ endSpot with owner := 0, out := 0 } : RSpot).cells _) hnb (by simp)).mono ?_
  rintro r w2 ⟨g2, cap2, rfl, hR2, hF2, hg2⟩
  have HG2 : Hid (RGrows w w2 ⟨w.heap.size + 1 + 1, .slice (some ⟨g2, 0, none⟩) 2 cap2, [w.heap.size + 1 + 1 + 1 + 1, w1.heap.size], .slice none 0 0, .slice none 0 0, [], .pointer (some ⟨w.heap.size + 1, 0, none⟩)⟩
      { kind := k, threads := t, nodes := n, entries := e, limit := l, clock := 0, spots := [anchorSpot (w.heap.size + 1 + 1 + 1), endSpot], ts := [] } k t n e l w.heap.size (w.heap.size + 1 + 1 + 1) (w.heap.size + 1)) :=
    G1.spotted (At.newAt rfl _ _) (by omega) hR2 hF2 hg2
  clear G1 hR2 hF2 hg2 HG1 hnb
  generalize [w.heap.size + 1 + 1 + 1 + 1, w1.heap.size] = sps at HG2
  clear hs1
  go_wp2_with fail
  go_loopw [5] (fun i wr => ∃ (j : Nat) (tv : Value) (ths : List Nat), j ≤ t ∧ i = .int .i64 j ∧
      Hid (RGrows w wr ⟨w.heap.size + 1 + 1, .slice (some ⟨g2, 0, none⟩) 2 cap2, sps, .slice none 0 0, tv, ths, .pointer (some ⟨w.heap.size + 1, 0, none⟩)⟩
      { kind := k, threads := t, nodes := n, entries := e, limit := l, clock := 0, spots := [anchorSpot (w.heap.size + 1 + 1 + 1), endSpot], ts := List.replicate j RThread.new0 } k t n e l w.heap.size (w.heap.size + 1 + 1 + 1) (w.heap.size + 1))) (fun i _ => t - (intOf i).toNat)
  case atStart => exact ⟨0, _, _, Nat.zero_le _, rfl, HG2⟩
  case round =>
    clear HG2
    obtain ⟨j, tv, ths, hj, rfl, HG⟩ := hrel
    have hcc := HG.out.cf.cell
    have hcs := HG.out.R.hd.cell
    have hzs := HG.out.R.hd.frozen
    have hl1 := HG.out.R.hd.lt
    simp only [cfgCells] at hcc
    dsimp only at hcs hzs hl1
    by_cases hjt : j < t
    · go_wp2_with (at_builtin; refine wpList_push _ rfl _ _ 121 rfl 0 131 iW (.pointer none) 1 8 Tryz.underlying121 hiW hzW hsW hbW rfl (by decide) _ _ _ rfl (ownsRow_alloc (ownsRow_alloc HG.out.R.th _) _) (wr.heap.size + 1) [.pointer (some ⟨wr.heap.size, 0, none⟩)] rfl rfl 131 (At.newAt (by simp) _ _) (by simp [Value.oneCell']) (by simp; unfold maxLen; omega) (by simp; omega) (by simp) ?_)
      intro g cap w' hown hg hge
      have R1 := HG.out.threaded (y := RThread.new0) (v := [.pointer (some ⟨wr.heap.size, 0, none⟩)]) (g := g) (cap := cap) (by simpa using hown) hg (by rcases hge with h | h; exact .inl h; right; first | omega | (simp at h; omega))
      obtain ⟨hA, hC, hG⟩ := R1
      have hcc := hC.cell
      have hcs := hA.cell
      have hzs := hA.frozen
      simp only [cfgCells] at hcc
      dsimp only at hcs hzs
      have HG' : Hid (RGrows w (w'.setCell ⟨w.heap.size + 1 + 1, 8, none⟩ (.slice (some ⟨g, 0, none⟩) (j + 1) cap)) ⟨w.heap.size + 1 + 1, .slice (some ⟨g2, 0, none⟩) 2 cap2, sps, .slice none 0 0, .slice (some ⟨g, 0, none⟩) (j + 1) cap, ths ++ [wr.heap.size], .pointer (some ⟨w.heap.size + 1, 0, none⟩)⟩
          { kind := k, threads := t, nodes := n, entries := e, limit := l, clock := 0, spots := [anchorSpot (w.heap.size + 1 + 1 + 1), endSpot], ts := List.replicate (j + 1) RThread.new0 } k t n e l w.heap.size (w.heap.size + 1 + 1 + 1) (w.heap.size + 1)) := by
        rw [List.replicate_succ']
        show RGrows _ _ _ _ _ _ _ _ _ _ _ _
        simpa using hG
      clear hA hC hG hown hg hge HG hl1
      go_wp2
      go_roundw
      case rel => exact ⟨j + 1, _, _, by omega, by go_num, by simpa using HG'⟩
      case measure => simp [intOf]; omega
    · have hjt' : j = t := by omega
      subst hjt'
      go_wp2
      go_ret2
      refine ⟨_, _, rfl, HG.out.R, ⟨⟨_, rfl, HG.out.rd⟩, rfl, HG.out.st⟩, HG.out.fr, HG.out.new, HG.out.nb, by intro r h; simp at h; omega⟩
theorem RNew_yes (k t n e l : Int) (w : World) (hok : okCfg k t n e l = true) :
    Calls Tryz.prog 27 #[cfg k t n e l] w fun r w' => ∃ (L : RLay) (b : Nat), r = .returned (.tuple #[.pointer (some ⟨L.s, 0, none⟩), .int .i64 0]) ∧ RAt w' L (freshR k t n e l b) ∧ RMore w' L b ∧ Fr (fun _ => False) w w' ∧ (∀ c, L.own c → w.heap.size ≤ c) ∧ w.heap.size ≤ b :=
  (RNew_full k t n e l w hok).mono fun _ _ ⟨L, b, h1, h2, h3, h4, h5, h6, _⟩ => ⟨L, b, h1, h2, h3, h4, h5, h6⟩
end Go.Proofs.YtfccelbmacjifaaGreat

namespace Go.Proofs.YtfccelbmacjifaaGreat
open Go.RowKit
/-- The document's new store. -/
def anchorB : BSpot := ⟨0, false, 0, 0, fun _ => 1, upd (fun _ => []) false [0], fun _ => false, false, -1, -1, false⟩
def endB : BSpot := ⟨-1, true, keyEnd, 0, fun _ => 0, fun _ => [], fun _ => false, false, -1, -1, false⟩
def newB : BThread := { BThread.zero with slot := -1 }
def freshB (k t n e l : Int) : BSt := { kind := k, threads := t, nodes := n, entries := e, limit := l, clock := 0, spots := [anchorB, endB], log := [], ts := List.replicate t.toNat newB, round := ⟨1, 0, 0, [], []⟩ }
def ownTh (own : Own) (z : Nat) : List Nat → Nat → Own
  | [], _ => own
  | b :: r, i => (ownTh own z r (i + 1)).put b z (.thread i)
theorem ownTh_out (own : Own) (z : Nat) : ∀ (l : List Nat) (i k : Nat), k ∉ l → ownTh own z l i k = own k
  | [], _, _, _ => rfl
  | b :: r, i, k, h => by
    simp only [List.mem_cons, not_or] at h
    rw [ownTh, Own.put_ne _ _ _ h.1, ownTh_out own z r (i + 1) k h.2]
theorem ownTh_in (own : Own) (z : Nat) : ∀ (l : List Nat) (i j b : Nat), l.Nodup → l[j]? = some b → ownTh own z l i b = ⟨z, .thread (i + j)⟩
  | [], _, _, _, _, h => by simp at h
  | c :: r, i, 0, b, hn, h => by simp at h; subst h; rw [ownTh, Own.put_same]; rfl
  | c :: r, i, j + 1, b, hn, h => by
    simp only [List.getElem?_cons_succ] at h
    rw [List.nodup_cons] at hn
    have hne : b ≠ c := by rintro rfl; exact hn.1 (List.mem_of_getElem? h)
    rw [ownTh, Own.put_ne _ _ _ hne, ownTh_in own z r (i + 1) j b hn.2 h]
    congr 2; omega
def blankTh (b : Nat) : TLay := ⟨b, .slice none 0 0, .slice none 0 0, .slice none 0 0, .slice none 0 0, .slice none 0 0, .slice none 0 0, .slice none 0 0⟩

theorem BAt.ofNew {own : Own} {z : Nat} {w w' : World} {L : RLay} {b : Nat} {k t n e l : Int} (h : RAt w' L (freshR k t n e l b)) (hm : RMore w' L b) (hnew : ∀ c, L.own c → w.heap.size ≤ c) (hb : w.heap.size ≤ b)
    (hr : ∀ r, L.rv = .pointer (some ⟨r, 0, none⟩) → w.heap.size ≤ r) (ht1 : 1 ≤ t) : ∃ own' L', BAt own' z w' L' (freshB k t n e l) ∧ Ext own own' w ∧ L'.s = L.s := by
  obtain ⟨r, hrv, hrd⟩ := hm.round
  have hrn := hr r hrv
  have hlv := hm.log
  have hst := hm.stamp
  -- the two spots
  obtain ⟨s0, hs0⟩ : ∃ x, L.sps[0]? = some x := ⟨_, List.getElem?_eq_getElem (by rw [h.slen]; simp [freshR])⟩
  obtain ⟨s1, hs1⟩ : ∃ x, L.sps[1]? = some x := ⟨_, List.getElem?_eq_getElem (by rw [h.slen]; simp [freshR])⟩
  have hsps : L.sps = [s0, s1] := by
    have hl : L.sps.length = 2 := by rw [h.slen]; simp [freshR]
    match hL : L.sps, hl with
    | [a, c], _ => rw [hL] at hs0 hs1; simp at hs0 hs1; rw [hs0, hs1]
  have hA0 := h.spot 0 s0 (anchorSpot b) hs0 rfl
  have hA1 := h.spot 1 s1 endSpot hs1 rfl
  have hne01 : s1 ≠ s0 := by have := h.sapart; rw [hsps] at this; simp at this; exact fun e => this e.symm
  obtain ⟨sb, scap, hsv, _⟩ := ownsRow_shape h.sp (by simp [freshR])
  have hlen : (freshR k t n e l b).ts.length = t.toNat := by simp [freshR]
  obtain ⟨tb, tcap, htv, _⟩ := ownsRow_shape h.th (by rw [hlen]; omega)
  have hsp := h.sp
  have hth := h.th
  rw [hsv] at hsp
  rw [htv] at hth
  rw [hlen] at hth
  have hwt : ∀ (i : Nat) c, L.ths[i]? = some c → At w' c RThread.new0.cells 136 := by
    intro i c hc
    have hi : i < t.toNat := by
      have := (List.getElem?_eq_some_iff.1 hc).1
      rw [h.tlen, hlen] at this; exact this
    exact h.thr i c _ hc (by simp [freshR, hi])
  have d1 : L.s ≠ s0 := h.hd.ne hA0 (by decide)
  have d2 : L.s ≠ s1 := h.hd.ne hA1 (by decide)
  have d3 : L.s ≠ r := h.hd.ne hrd (by decide)
  have d4 : L.s ≠ b := h.hd.ne hst (by decide)
  have d5 : sb ≠ L.s := by have := h.hd.ne_row hsp (by decide); simpa [Value.ownBlock] using this
  have d6 : tb ≠ L.s := by have := h.hd.ne_row hth (by decide); simpa [Value.ownBlock] using this
  have d7 : s0 ≠ r := hA0.ne hrd (by decide)
  have d8 : s1 ≠ r := hA1.ne hrd (by decide)
  have d9 : s0 ≠ b := hA0.ne hst (by decide)
  have d10 : s1 ≠ b := hA1.ne hst (by decide)
  have d11 : sb ≠ s0 := by have := hA0.ne_row hsp (by decide); simpa [Value.ownBlock] using this
  have d12 : sb ≠ s1 := by have := hA1.ne_row hsp (by decide); simpa [Value.ownBlock] using this
  have d13 : tb ≠ s0 := by have := hA0.ne_row hth (by decide); simpa [Value.ownBlock] using this
  have d14 : tb ≠ s1 := by have := hA1.ne_row hth (by decide); simpa [Value.ownBlock] using this
  have d15 : r ≠ b := hrd.ne hst (by decide)
  have d16 : sb ≠ r := by have := hrd.ne_row hsp (by decide); simpa [Value.ownBlock] using this
  have d17 : tb ≠ r := by have := hrd.ne_row hth (by decide); simpa [Value.ownBlock] using this
  have d18 : sb ≠ b := by have := hst.ne_row hsp (by decide); simpa [Value.ownBlock] using this
  have d19 : tb ≠ b := by have := hst.ne_row hth (by decide); simpa [Value.ownBlock] using this
  have d20 : tb ≠ sb := by have := ownsRow_ne hth hsp (by decide); simpa [Value.ownBlock] using this
  have hwk : ∀ c, c ∈ L.ths → c ≠ L.s ∧ c ≠ s0 ∧ c ≠ s1 ∧ c ≠ r ∧ c ≠ b ∧ c ≠ sb ∧ c ≠ tb := by
    intro c hc
    obtain ⟨i, hi⟩ := List.getElem?_of_mem hc
    have hA := hwt i c hi
    refine ⟨hA.ne h.hd (by decide), hA.ne hA0 (by decide), hA.ne hA1 (by decide), hA.ne hrd (by decide), hA.ne hst (by decide), ?_, ?_⟩
    · have := hA.ne_row hsp (by decide); simp [Value.ownBlock] at this; exact fun e => this e.symm
    · have := hA.ne_row hth (by decide); simp [Value.ownBlock] at this; exact fun e => this e.symm
  let own' : Own := (((((((ownTh own z L.ths 0).put tb z .thl).put sb z .spl).put b z (.st 0 false)).put r z .round).put s1 z (.spot 1)).put s0 z (.spot 0)).put L.s z .store
  have o1 : own' L.s = ⟨z, .store⟩ := Own.put_same _ _ _ _
  have o2 : own' s0 = ⟨z, .spot 0⟩ := by show (Own.put _ _ _ _) _ = _; rw [Own.put_ne _ _ _ d1.symm, Own.put_same]
  have o3 : own' s1 = ⟨z, .spot 1⟩ := by show (Own.put _ _ _ _) _ = _; rw [Own.put_ne _ _ _ d2.symm, Own.put_ne _ _ _ hne01, Own.put_same]
  have o4 : own' r = ⟨z, .round⟩ := by show (Own.put _ _ _ _) _ = _; rw [Own.put_ne _ _ _ d3.symm, Own.put_ne _ _ _ d7.symm, Own.put_ne _ _ _ d8.symm, Own.put_same]
  have o5 : own' b = ⟨z, .st 0 false⟩ := by show (Own.put _ _ _ _) _ = _; rw [Own.put_ne _ _ _ d4.symm, Own.put_ne _ _ _ d9.symm, Own.put_ne _ _ _ d10.symm, Own.put_ne _ _ _ d15.symm, Own.put_same]
  have o6 : own' sb = ⟨z, .spl⟩ := by show (Own.put _ _ _ _) _ = _; rw [Own.put_ne _ _ _ d5, Own.put_ne _ _ _ d11, Own.put_ne _ _ _ d12, Own.put_ne _ _ _ d16, Own.put_ne _ _ _ d18, Own.put_same]
  have o7 : own' tb = ⟨z, .thl⟩ := by show (Own.put _ _ _ _) _ = _; rw [Own.put_ne _ _ _ d6, Own.put_ne _ _ _ d13, Own.put_ne _ _ _ d14, Own.put_ne _ _ _ d17, Own.put_ne _ _ _ d19, Own.put_ne _ _ _ d20, Own.put_same]
  have o8 : ∀ (i : Nat) c, L.ths[i]? = some c → own' c = ⟨z, .thread i⟩ := by
    intro i c hc
    obtain ⟨h1, h2, h3, h4, h5, h6, h7⟩ := hwk c (List.mem_of_getElem? hc)
    show (Own.put _ _ _ _) _ = _
    rw [Own.put_ne _ _ _ h1, Own.put_ne _ _ _ h2, Own.put_ne _ _ _ h3, Own.put_ne _ _ _ h4, Own.put_ne _ _ _ h5, Own.put_ne _ _ _ h6, Own.put_ne _ _ _ h7, ownTh_in own z L.ths 0 i c h.tapart hc, Nat.zero_add]
  have hE : Ext own own' w := by
    intro j hj
    have hno : ∀ c, L.own c → j ≠ c := fun c hc e => by have := hnew c hc; omega
    have h1 := hno L.s (.inl rfl)
    have h2 := hno s0 (.inr (.inr (.inr (.inl (by rw [hsps]; simp)))))
    have h3 := hno s1 (.inr (.inr (.inr (.inl (by rw [hsps]; simp)))))
    have h4 := hno sb (.inr (.inl (by rw [hsv]; rfl)))
    have h5 := hno tb (.inr (.inr (.inl (by rw [htv]; rfl))))
    have h6 : j ∉ L.ths := fun hm => hno j (.inr (.inr (.inr (.inr hm)))) rfl
    show (Own.put _ _ _ _) _ = _
    rw [Own.put_ne _ _ _ h1, Own.put_ne _ _ _ h2, Own.put_ne _ _ _ h3, Own.put_ne _ _ _ (by omega), Own.put_ne _ _ _ (by omega), Own.put_ne _ _ _ h4, Own.put_ne _ _ _ h5, ownTh_out own z L.ths 0 j h6]
  have hpl : (freshB k t n e l).ts.length = t.toNat := by simp [freshB]
  refine ⟨own', ⟨L.s, L.sv, [⟨s0, fun s => if s then .slice none 0 0 else .slice (some ⟨b, 0, none⟩) 1 1⟩, ⟨s1, fun _ => .slice none 0 0⟩], .slice none 0 0, L.tv, L.ths.map blankTh, ⟨r, .slice none 0 0, .slice none 0 0⟩⟩, ?_, hE, rfl⟩
  refine ⟨?_, o1, ?_, rfl, ?_, ?_, ?_, ?_, Row.nil _ _ _ _ _ _, ⟨hrd, o4, Row.nil _ _ _ _ _ _, Row.nil _ _ _ _ _ _⟩⟩
  · have := h.hd
    rw [hlv, hrv] at this
    exact this
  · refine ⟨?_, ?_⟩
    · have := h.sp
      rw [hsps] at this
      exact this
    · intro j hj; rw [show ({ s := L.s, sv := L.sv, sps := _, lv := _, tv := L.tv, ths := _, rd := _ } : BLay).sv = L.sv from rfl, hsv] at hj; simp [Value.ownBlock] at hj; subst hj; exact o6
  · intro i lx x hl hx
    match i, hl, hx with
    | 0, hl, hx =>
      simp at hl; subst hl
      simp [freshB] at hx; subst hx
      refine ⟨hA0, o2, ?_⟩
      intro s
      cases s
      · exact Row.lit _ _ _ hst (by simp [anchorB, upd, intCells]) (by simp [maxLen]) o5
      · exact Row.nil _ _ _ _ _ _
    | 1, hl, hx =>
      simp at hl; subst hl
      simp [freshB] at hx; subst hx
      exact ⟨hA1, o3, fun s => Row.nil _ _ _ _ _ _⟩
    | i + 2, hl, hx => simp at hl
  · refine ⟨?_, ?_⟩
    · have := h.th
      rw [hlen] at this
      rw [hpl]
      have e : tptrs (L.ths.map blankTh) = ptrs L.ths := by unfold tptrs ptrs; rw [List.map_map]; rfl
      rw [e]; exact this
    · intro j hj; rw [show ({ s := L.s, sv := L.sv, sps := _, lv := _, tv := L.tv, ths := _, rd := _ } : BLay).tv = L.tv from rfl, htv] at hj; simp [Value.ownBlock] at hj; subst hj; exact o7
  · rw [List.length_map, h.tlen, hlen, hpl]
  · intro i lw tw hl ht
    rw [List.getElem?_map] at hl
    cases hc : L.ths[i]? with
    | none => rw [hc] at hl; simp at hl
    | some c =>
      rw [hc] at hl; simp at hl; subst hl
      have htw : tw = newB := by
        have : tw ∈ List.replicate t.toNat newB := List.mem_of_getElem? ht
        exact (List.mem_replicate.1 this).2
      subst htw
      exact ⟨hwt i c hc, o8 i c hc, Row.nil _ _ _ _ _ _, Row.nil _ _ _ _ _ _, Row.nil _ _ _ _ _ _, Row.nil _ _ _ _ _ _, Row.nil _ _ _ _ _ _, ListsAt.none _ _ _, ListsAt.none _ _ _⟩
end Go.Proofs.YtfccelbmacjifaaGreat

