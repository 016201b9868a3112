import Derived.Test.YtfccelbmacjifaaXNew
namespace Go.Proofs.Ytfccelbmacjifaa
open Go.RowKit

/-- An answer, its lists as a value. -/
structure RAns where
  err : Int
  did : Bool
  value : Int
  stamp : Int
  spans : Value
def RAns.cells (a : RAns) : List Value := [.int .i64 a.err, .bool a.did, .int .i64 a.value, .int .i64 a.stamp, a.spans]
def RAns.zero : RAns := ⟨0, false, 0, 0, .slice none 0 0⟩

/-- A slice as it stands in a cell. -/
structure Sl where
  a : Option Addr
  n : Nat
  c : Nat
def Sl.v (s : Sl) : Value := .slice s.a s.n s.c
def Sl.nil : Sl := ⟨none, 0, 0⟩

structure RSpot where
  id : Int
  leaf : Bool
  key : Int
  value : Int
  now0 : Int
  now1 : Int
  st0 : Sl
  st1 : Sl
  open0 : Bool
  open1 : Bool
  dead : Bool
  owner : Int
  out : Int
  free : Bool
def RSpot.cells (x : RSpot) : List Value :=
  [.int .i64 x.id, .bool x.leaf, .int .i64 x.key, .int .i64 x.value, .int .i64 x.now0, .int .i64 x.now1, .slice x.st0.a x.st0.n x.st0.c, .slice x.st1.a x.st1.n x.st1.c, .bool x.open0, .bool x.open1,
   .bool x.dead, .int .i64 x.owner, .int .i64 x.out, .bool x.free]

structure RThread where
  okind : Int
  okey : Int
  ovalue : Int
  ospans : Sl
  busy : Bool
  has : Bool
  at_ : Int
  slot : Int
  t : Int
  g : Int
  gs : Int
  x : Int
  xs : Int
  c : Int
  want : Sl
  have_ : Int
  src : Int
  side : Int
  dst : Int
  new : Sl
  hid : Int
  hside : Int
  hkey : Int
  todo : Sl
  found : Sl
  ans : RAns
  last : RAns
def RThread.cells (t : RThread) : List Value :=
  [.int .i64 t.okind, .int .i64 t.okey, .int .i64 t.ovalue, t.ospans.v, .bool t.busy, .bool t.has, .int .i64 t.at_, .int .i64 t.slot, .int .i64 t.t, .int .i64 t.g, .int .i64 t.gs, .int .i64 t.x, .int .i64 t.xs, .int .i64 t.c, t.want.v,
   .int .i64 t.have_, .int .i64 t.src, .int .i64 t.side, .int .i64 t.dst, t.new.v, .int .i64 t.hid, .int .i64 t.hside, .int .i64 t.hkey, t.todo.v, t.found.v,
   .int .i64 t.ans.err, .bool t.ans.did, .int .i64 t.ans.value, .int .i64 t.ans.stamp, t.ans.spans, .int .i64 t.last.err, .bool t.last.did, .int .i64 t.last.value, .int .i64 t.last.stamp, t.last.spans]
def RThread.new0 : RThread := ⟨0, 0, 0, Sl.nil, false, false, 0, -1, 0, 0, 0, 0, 0, 0, Sl.nil, 0, 0, 0, 0, Sl.nil, 0, 0, 0, Sl.nil, Sl.nil, RAns.zero, RAns.zero⟩

structure RLay where
  s : Nat
  sv : Value
  sps : List Nat
  lv : Value
  tv : Value
  ths : List Nat
  rv : Value
structure RSt where
  kind : Int
  threads : Int
  nodes : Int
  entries : Int
  limit : Int
  clock : Int
  spots : List RSpot
  ts : List RThread
structure RAt (w : World) (L : RLay) (R : RSt) : Prop where
  hd : At w L.s [.int .i64 R.kind, .int .i64 R.threads, .int .i64 R.nodes, .int .i64 R.entries, .int .i64 R.limit, .int .i64 R.clock, L.sv, L.lv, L.tv, L.rv] 71
  sp : w.ownsRow 0 73 1 L.sv R.spots.length (ptrs L.sps)
  slen : L.sps.length = R.spots.length
  spot : ∀ (i b : Nat) (x : RSpot), L.sps[i]? = some b → R.spots[i]? = some x → At w b x.cells 78
  sapart : L.sps.Nodup
  th : w.ownsRow 0 79 1 L.tv R.ts.length (ptrs L.ths)
  tlen : L.ths.length = R.ts.length
  thr : ∀ (i b : Nat) (t : RThread), L.ths[i]? = some b → R.ts[i]? = some t → At w b t.cells 86
  tapart : L.ths.Nodup
def RLay.own (L : RLay) (k : Nat) : Prop := k = L.s ∨ L.sv.ownBlock = some k ∨ L.tv.ownBlock = some k ∨ k ∈ L.sps ∨ k ∈ L.ths

section
variable {w w' : World} {L : RLay} {R : RSt}
theorem RAt.fr {S : Nat → Prop} (h : RAt w L R) (hf : Fr S w w') (hS : ∀ k, L.own k → ¬ S k) : RAt w' L R := by
  refine ⟨hf.at h.hd (hS _ (.inl rfl)), hf.owns h.sp (fun k hk => hS k (.inr (.inl hk))), h.slen, ?_, h.sapart, hf.owns h.th (fun k hk => hS k (.inr (.inr (.inl hk)))), h.tlen, ?_, h.tapart⟩
  · intro i b x hb hx
    exact hf.at (h.spot i b x hb hx) (hS _ (.inr (.inr (.inr (.inl (List.mem_of_getElem? hb))))))
  · intro i b t hb ht
    exact hf.at (h.thr i b t hb ht) (hS _ (.inr (.inr (.inr (.inr (List.mem_of_getElem? hb))))))
theorem RAt.thread (h : RAt w L R) {i : Nat} {t : RThread} (ht : R.ts[i]? = some t) : ∃ b tb cap, L.ths[i]? = some b ∧ L.tv = .slice (some ⟨tb, 0, none⟩) R.ts.length cap ∧ w.cell? ⟨tb, i, none⟩ = some (.pointer (some ⟨b, 0, none⟩)) ∧ At w b t.cells 86 := by
  have hi : i < L.ths.length := by rw [h.tlen]; exact (List.getElem?_eq_some_iff.1 ht).1
  have hb := List.getElem?_eq_getElem hi
  obtain ⟨tb, cap, hv, _⟩ := ownsRow_shape h.th (by rw [← h.tlen]; omega)
  have ho := h.th
  rw [hv] at ho
  exact ⟨L.ths[i], tb, cap, hb, hv, ownsRow_cell ho (ptrs_get hb), h.thr i _ t hb ht⟩
theorem RAt.spotAt (h : RAt w L R) {i : Nat} {x : RSpot} (hx : R.spots[i]? = some x) : ∃ b sb cap, L.sps[i]? = some b ∧ L.sv = .slice (some ⟨sb, 0, none⟩) R.spots.length cap ∧ w.cell? ⟨sb, i, none⟩ = some (.pointer (some ⟨b, 0, none⟩)) ∧ At w b x.cells 78 := by
  have hi : i < L.sps.length := by rw [h.slen]; exact (List.getElem?_eq_some_iff.1 hx).1
  have hb := List.getElem?_eq_getElem hi
  obtain ⟨sb, cap, hv, _⟩ := ownsRow_shape h.sp (by rw [← h.slen]; omega)
  have ho := h.sp
  rw [hv] at ho
  exact ⟨L.sps[i], sb, cap, hb, hv, ownsRow_cell ho (ptrs_get hb), h.spot i _ x hb hx⟩
end

theorem Try.infoSpotPtr : (Try.prog.info? 73).map (fun i => (i.zero, i.size, i.bytes)) = some (some (.pointer none), 1, 8) := by kernel_rfl
theorem Try.infoThreadPtr : (Try.prog.info? 79).map (fun i => (i.zero, i.size, i.bytes)) = some (some (.pointer none), 1, 8) := by kernel_rfl

set_option maxHeartbeats 400000 in
theorem between_calls (n a b : Int) (w : World) :
    Calls Try.prog 14 #[.int .i64 n, .int .i64 a, .int .i64 b] w fun e w' => e = .returned (.bool (isIn n a b)) ∧ w' = w := by
  by_cases h1 : a ≤ n
  · by_cases h2 : n ≤ b
    · go_enter Try.func14, Try.ntmps14
      go_wp2
      go_ret
      exact ⟨ret_bool (isIn_true (by omega)).symm, rfl⟩
    · go_enter Try.func14, Try.ntmps14
      go_wp2
      go_ret
      exact ⟨ret_bool (isIn_false (by omega)).symm, rfl⟩
  · go_enter Try.func14, Try.ntmps14
    go_wp2
    go_ret
    exact ⟨ret_bool (isIn_false (by omega)).symm, rfl⟩

section
variable {w w1 : World} {L : RLay} {R : RSt}
/-- A new spot at the list's end. -/
theorem RAt.pushSpot (h : RAt w L R) {b : Nat} {x : RSpot} (hb : At w b x.cells 78) (hnb : b ∉ L.sps) {g cap : Nat} {v : List Value}
    (ho : w1.ownsRow 0 73 1 (.slice (some ⟨g, 0, none⟩) (R.spots.length + 1) cap) (R.spots.length + 1) (ptrs L.sps ++ [.pointer (some ⟨b, 0, none⟩)]))
    (hg : (w.alloc (.cells v.toArray 73)).grownBy w1 L.sv.ownBlock) :
    At w1 L.s [.int .i64 R.kind, .int .i64 R.threads, .int .i64 R.nodes, .int .i64 R.entries, .int .i64 R.limit, .int .i64 R.clock, L.sv, L.lv, L.tv, L.rv] 71 ∧
    RAt (w1.setCell ⟨L.s, 6, none⟩ (.slice (some ⟨g, 0, none⟩) (R.spots.length + 1) cap)) { L with sv := .slice (some ⟨g, 0, none⟩) (R.spots.length + 1) cap, sps := L.sps ++ [b] } { R with spots := R.spots ++ [x] } := by
  have hA := (h.hd.alloc (.cells v.toArray 73)).grown hg (h.hd.ne_row h.sp (by decide))
  have hS : ∀ (i b' : Nat) (y : RSpot), (L.sps ++ [b])[i]? = some b' → (R.spots ++ [x])[i]? = some y → At w1 b' y.cells 78 := by
    intro i b' y hi hy
    by_cases hlt : i < L.sps.length
    · rw [List.getElem?_append_left hlt] at hi
      rw [List.getElem?_append_left (by rw [← h.slen]; exact hlt)] at hy
      exact ((h.spot i b' y hi hy).alloc _).grown hg ((h.spot i b' y hi hy).ne_row h.sp (by decide))
    · have hi' : i = L.sps.length := by
        have := (List.getElem?_eq_some_iff.1 hi).1
        simp at this; omega
      subst hi'
      simp at hi; subst hi
      rw [h.slen] at hy
      simp at hy; subst hy
      exact (hb.alloc _).grown hg (hb.ne_row h.sp (by decide))
  have hT : w1.ownsRow 0 79 1 L.tv R.ts.length (ptrs L.ths) := (h.th.alloc _).kept hg (ownsRow_ne h.th h.sp (by decide))
  have hth : ∀ (i b : Nat) (t : RThread), L.ths[i]? = some b → R.ts[i]? = some t → At w1 b t.cells 86 := fun i b t hi ht =>
    ((h.thr i b t hi ht).alloc _).grown hg ((h.thr i b t hi ht).ne_row h.sp (by decide))
  refine ⟨hA, hA.set 6 _, ?_, by simp [h.slen], ?_, ?_, ?_, h.tlen, ?_, h.tapart⟩
  · have e : ptrs (L.sps ++ [b]) = ptrs L.sps ++ [.pointer (some ⟨b, 0, none⟩)] := by simp [ptrs]
    simp only [e, List.length_append, List.length_singleton]
    exact ownsRow_setOther ho (hA.ne_row ho (by decide)) _
  · intro i b' y hi hy
    exact (hS i b' y hi hy).setOther _ ((hS i b' y hi hy).ne hA (by decide)) _
  · rw [List.nodup_append]
    refine ⟨h.sapart, by simp, ?_⟩
    intro a ha c hc
    simp at hc; subst hc
    rintro rfl; exact hnb ha
  · exact ownsRow_setOther hT (hA.ne_row hT (by decide)) _
  · intro i b' t hi ht
    exact (hth i b' t hi ht).setOther _ ((hth i b' t hi ht).ne hA (by decide)) _
/-- A new thread at the list's end. -/
theorem RAt.pushThread (h : RAt w L R) {b : Nat} {x : RThread} (hb : At w b x.cells 86) (hnb : b ∉ L.ths) {g cap : Nat} {v : List Value}
    (ho : w1.ownsRow 0 79 1 (.slice (some ⟨g, 0, none⟩) (R.ts.length + 1) cap) (R.ts.length + 1) (ptrs L.ths ++ [.pointer (some ⟨b, 0, none⟩)]))
    (hg : (w.alloc (.cells v.toArray 79)).grownBy w1 L.tv.ownBlock) :
    At w1 L.s [.int .i64 R.kind, .int .i64 R.threads, .int .i64 R.nodes, .int .i64 R.entries, .int .i64 R.limit, .int .i64 R.clock, L.sv, L.lv, L.tv, L.rv] 71 ∧
    RAt (w1.setCell ⟨L.s, 8, none⟩ (.slice (some ⟨g, 0, none⟩) (R.ts.length + 1) cap)) { L with tv := .slice (some ⟨g, 0, none⟩) (R.ts.length + 1) cap, ths := L.ths ++ [b] } { R with ts := R.ts ++ [x] } := by
  have hA := (h.hd.alloc (.cells v.toArray 79)).grown hg (h.hd.ne_row h.th (by decide))
  have hS : ∀ (i b' : Nat) (y : RThread), (L.ths ++ [b])[i]? = some b' → (R.ts ++ [x])[i]? = some y → At w1 b' y.cells 86 := by
    intro i b' y hi hy
    by_cases hlt : i < L.ths.length
    · rw [List.getElem?_append_left hlt] at hi
      rw [List.getElem?_append_left (by rw [← h.tlen]; exact hlt)] at hy
      exact ((h.thr i b' y hi hy).alloc _).grown hg ((h.thr i b' y hi hy).ne_row h.th (by decide))
    · have hi' : i = L.ths.length := by
        have := (List.getElem?_eq_some_iff.1 hi).1
        simp at this; omega
      subst hi'
      simp at hi; subst hi
      rw [h.tlen] at hy
      simp at hy; subst hy
      exact (hb.alloc _).grown hg (hb.ne_row h.th (by decide))
  have hT : w1.ownsRow 0 73 1 L.sv R.spots.length (ptrs L.sps) := (h.sp.alloc _).kept hg (ownsRow_ne h.sp h.th (by decide))
  have hth : ∀ (i b : Nat) (t : RSpot), L.sps[i]? = some b → R.spots[i]? = some t → At w1 b t.cells 78 := fun i b t hi ht =>
    ((h.spot i b t hi ht).alloc _).grown hg ((h.spot i b t hi ht).ne_row h.th (by decide))
  refine ⟨hA, hA.set 8 _, ?_, h.slen, ?_, h.sapart, ?_, by simp [h.tlen], ?_, ?_⟩
  · exact ownsRow_setOther hT (hA.ne_row hT (by decide)) _
  · intro i b' t hi ht
    exact (hth i b' t hi ht).setOther _ ((hth i b' t hi ht).ne hA (by decide)) _
  · have e : ptrs (L.ths ++ [b]) = ptrs L.ths ++ [.pointer (some ⟨b, 0, none⟩)] := by simp [ptrs]
    simp only [e, List.length_append, List.length_singleton]
    exact ownsRow_setOther ho (hA.ne_row ho (by decide)) _
  · intro i b' y hi hy
    exact (hS i b' y hi hy).setOther _ ((hS i b' y hi hy).ne hA (by decide)) _
  · rw [List.nodup_append]
    refine ⟨h.tapart, by simp, ?_⟩
    intro a ha c hc
    simp at hc; subst hc
    rintro rfl; exact hnb ha
end

set_option maxHeartbeats 1000000 in
set_option maxRecDepth 100000 in
theorem spot_calls {w : World} {L : RLay} {R : RSt} (h : RAt w L R) {b : Nat} {x : RSpot} (hb : At w b x.cells 78) (hnb : b ∉ L.sps) (hn : R.spots.length < 2 ^ 42) :
    Calls Try.prog 15 #[.pointer (some ⟨L.s, 0, none⟩), .pointer (some ⟨b, 0, none⟩)] w fun e w' => ∃ g cap, e = .returned (.int .i64 R.spots.length) ∧
      RAt w' { L with sv := .slice (some ⟨g, 0, none⟩) (R.spots.length + 1) cap, sps := L.sps ++ [b] } { R with spots := R.spots ++ [{ x with owner := -1, out := -1 }] } ∧
      Fr (fun k => k = L.s ∨ k = b ∨ L.sv.ownBlock = some k) w w' ∧ (L.sv.ownBlock = some g ∨ w.heap.size ≤ g) := by
  obtain ⟨iS, hiS, hzS, hsS, hbS⟩ := info_parts Try.infoSpotPtr
  have hc := h.hd.cell
  have hz := h.hd.frozen
  have hcb := hb.cell
  have hzb := hb.frozen
  have hlb := hb.lt
  have hls := h.hd.lt
  have hne : b ≠ L.s := hb.ne h.hd (by decide)
  have hne' := hne.symm
  have HR := (show Hid (RAt w L R) from h)
  have Hb := (show Hid (At w b x.cells _) from hb)
  clear h hb
  simp only [RSpot.cells] at hcb
  have hown : ∀ k, L.own k → ¬ k = b := by
    intro k hk e
    subst e
    rcases hk with hk | hk | hk | hk | hk
    · exact hne hk
    · exact Hb.out.ne_row HR.out.sp (by decide) hk
    · exact Hb.out.ne_row HR.out.th (by decide) hk
    · exact hnb hk
    · obtain ⟨i, hi⟩ := List.getElem?_of_mem hk
      have hil : i < R.ts.length := by rw [← HR.out.tlen]; exact (List.getElem?_eq_some_iff.1 hi).1
      exact Hb.out.ne (HR.out.thr i _ _ hi (List.getElem?_eq_getElem hil)) (by decide) rfl
  have hF0 : Fr (fun k => k = b) w ((w.setCell ⟨b, 11, none⟩ (.int .i64 (-1))).setCell ⟨b, 12, none⟩ (.int .i64 (-1))) := Fr.set1 (Fr.set1 (Fr.refl _ _) _ _) _ _
  have HR0 := (show Hid (RAt ((w.setCell ⟨b, 11, none⟩ (.int .i64 (-1))).setCell ⟨b, 12, none⟩ (.int .i64 (-1))) L R) from HR.out.fr hF0 hown)
  have Hb0 := (show Hid (At ((w.setCell ⟨b, 11, none⟩ (.int .i64 (-1))).setCell ⟨b, 12, none⟩ (.int .i64 (-1))) b ({ x with owner := -1, out := -1 } : RSpot).cells 78) from (Hb.out.set 11 _).set 12 _)
  have HF0 := (show Hid (Fr (fun k => k = b) w _) from hF0)
  clear hF0 HR hown Hb
  go_enter Try.func15, Try.ntmps15
  go_wp2_with (at_builtin; refine wpList_push _ rfl _ _ 67 rfl 0 73 iS (.pointer none) 1 8 Try.underlying67 hiS hzS hsS hbS rfl (by decide) _ _ _ rfl (ownsRow_alloc HR0.out.sp _) w.heap.size [.pointer (some ⟨b, 0, none⟩)] rfl rfl 73 (At.newAt (by simp) _ _) (by simp [Value.oneCell']) (by unfold maxLen; omega) (by omega) (by simp) ?_)
  intro g cap w1 hown hg hge
  have R1 := HR0.out.pushSpot Hb0.out hnb (v := [.pointer (some ⟨b, 0, none⟩)]) hown hg
  obtain ⟨hA, hR⟩ := R1
  have hgn : L.sv.ownBlock = some g ∨ w.heap.size ≤ g := by
    rcases hge with h | h
    · exact .inl h
    · right; first | omega | (simp at h; omega)
  have hFr : Fr (fun k => k = L.s ∨ k = b ∨ L.sv.ownBlock = some k) w (w1.setCell ⟨L.s, 6, none⟩ (.slice (some ⟨g, 0, none⟩) (R.spots.length + 1) cap)) :=
    Fr.setIn (.inl rfl) (((HF0.out.mono (fun k _ hk => .inr (.inl hk))).alloc _).grown hg (fun k hk => .inl (.inr (.inr hk)))) _ _
  have hc := hA.cell
  have hz := hA.frozen
  have HR' := (show Hid (RAt _ _ _) from hR)
  have HF' := (show Hid (Fr _ _ _) from hFr)
  clear hA hR hFr hown hg HF0 HR0 Hb0 hge hcb hzb
  go_wp2
  go_ret
  refine ⟨g, cap, ret_int (by omega), HR'.out, HF'.out, hgn⟩
end Go.Proofs.Ytfccelbmacjifaa
