import Derived.Test.YtfccelbmacjifaaGreatP10
namespace Go.Proofs.YtfccelbmacjifaaGreat
open Go.RowKit
def opVal (kind key value : Int) (spans : Value) : Value := .agg #[.int .i64 kind, .int .i64 key, .int .i64 value, spans]
/-- A work without lists, as a value. -/
def workCells (k : PWork) : List Value := [.int .i64 k.kind, .int .i64 k.key, .int .i64 k.value, .slice none 0 0, .int .i64 k.next, .int .i64 k.time, .int .i64 k.stand, .int .i64 k.ahead, .int .i64 k.above, .int .i64 k.locks,
  .slice none 0 0, .int .i64 k.tsrc, .int .i64 (b2i k.tside), .slice none 0 0, .slice none 0 0, .int .i64 k.ans.err, .bool k.ans.did, .int .i64 k.ans.value, .int .i64 k.ans.stamp, .slice none 0 0]

set_option maxHeartbeats 400000 in
theorem isKey_calls (k : Int) (w : World) : Calls Tryz.prog 107 #[.int .i64 k] w fun e w' => e = .returned (.bool (isIn k 0 (2 ^ 40))) ∧ w' = w := by
  go_enter Tryz.func107, Tryz.ntmps107
  go_wp2_with fail
  refine (isWithin_calls k 0 1099511627776 _).mono ?_
  rintro e w' ⟨rfl, rfl⟩
  go_wp2
  go_ret
  exact ⟨rfl, rfl⟩

set_option maxHeartbeats 1000000 in
theorem checkOp_calls (kind key value : Int) (sp : Value) (w : World) (hkd : kind = 1 ∨ kind = 2) :
    Calls Tryz.prog 91 #[opVal kind key value sp] w fun e w' => e = .returned (.int .i64 (if isIn key 0 (2 ^ 40) then 0 else 5)) ∧ Fr (fun _ => False) w w' := by
  have hA := (At.new w [.int .i64 kind, .int .i64 key, .int .i64 value, sp] 82).cell
  unfold opVal
  cases hk : isIn key 0 (2 ^ 40)
  · rcases hkd with rfl | rfl
    all_goals
      go_enter Tryz.func91, Tryz.ntmps91
      go_wp2_with fail
      refine (isKey_calls key _).mono ?_
      rintro e w' ⟨rfl, rfl⟩
      rw [hk]
      go_wp2
      go_ret
      exact ⟨rfl, (Fr.refl _ _).alloc _⟩
  · rcases hkd with rfl | rfl
    all_goals
      go_enter Tryz.func91, Tryz.ntmps91
      go_wp2_with fail
      refine (isKey_calls key _).mono ?_
      rintro e w' ⟨rfl, rfl⟩
      rw [hk]
      go_wp2
      go_ret
      exact ⟨rfl, (Fr.refl _ _).alloc _⟩

def zeroCells : List Value := workCells PWork.zero
theorem work_size : ∀ w : World, (sizeOf 112).run Tryz.prog w = .ok 20 w := fun _ => by kernel_rfl
theorem workCells_one (k : PWork) : ∀ v ∈ workCells k, v.oneCell' = true := by
  intro v hv
  simp only [workCells, List.mem_cons, List.not_mem_nil, or_false] at hv
  rcases hv with rfl | rfl | rfl | rfl | rfl | rfl | rfl | rfl | rfl | rfl | rfl | rfl | rfl | rfl | rfl | rfl | rfl | rfl | rfl | rfl <;> rfl

set_option maxHeartbeats 4000000 in
set_option maxRecDepth 100000 in
theorem newWork_calls1 (key value : Int) (sa : Option Addr) (sn sc : Nat) (spans : List (Int × Int)) (w : World) :
    Calls Tryz.prog 92 #[opVal 1 key value (.slice sa sn sc)] w fun e w' => e = .returned (.agg (workCells (newWork 1 key value spans)).toArray) ∧ Fr (fun _ => False) w w' := by
  have hws := work_size
  unfold opVal
  go_enter Tryz.func92, Tryz.ntmps92
  go_upto_region 2 with (refine wpList_storeAgg _ rfl _ _ 112 rfl (w.heap.size + 2) 0 [.int .i64 1, .int .i64 0, .int .i64 0, .slice none 0 0, .int .i64 1, .int .i64 0, .int .i64 0, .int .i64 0, .int .i64 0, .int .i64 0, .slice none 0 0, .int .i64 0, .int .i64 0, .slice none 0 0, .slice none 0 0, .int .i64 0, .bool false, .int .i64 0, .int .i64 0, .slice none 0 0] rfl rfl hws zeroCells 112 (At.newAt (by simp) _ _) (by simp [zeroCells, workCells]) (by simp [Value.oneCell']) ?_)
  have hF : Fr (fun k => k = w.heap.size + 2) (((w.alloc (.cells #[.int .i64 1, .int .i64 key, .int .i64 value, .slice sa sn sc] 82)).alloc (.cells #[.int .i64 0, .int .i64 0, .int .i64 0, .slice none 0 0, .int .i64 0, .int .i64 0, .int .i64 0, .int .i64 0, .int .i64 0, .int .i64 0, .slice none 0 0, .int .i64 0, .int .i64 0, .slice none 0 0, .slice none 0 0, .int .i64 0, .bool false, .int .i64 0, .int .i64 0, .slice none 0 0] 112)).alloc (.cells #[.int .i64 0, .int .i64 0, .int .i64 0, .slice none 0 0, .int .i64 0, .int .i64 0, .int .i64 0, .int .i64 0, .int .i64 0, .int .i64 0, .slice none 0 0, .int .i64 0, .int .i64 0, .slice none 0 0, .slice none 0 0, .int .i64 0, .bool false, .int .i64 0, .int .i64 0, .slice none 0 0] 112)) ((((w.alloc (.cells #[.int .i64 1, .int .i64 key, .int .i64 value, .slice sa sn sc] 82)).alloc (.cells #[.int .i64 0, .int .i64 0, .int .i64 0, .slice none 0 0, .int .i64 0, .int .i64 0, .int .i64 0, .int .i64 0, .int .i64 0, .int .i64 0, .slice none 0 0, .int .i64 0, .int .i64 0, .slice none 0 0, .slice none 0 0, .int .i64 0, .bool false, .int .i64 0, .int .i64 0, .slice none 0 0] 112)).alloc (.cells #[.int .i64 0, .int .i64 0, .int .i64 0, .slice none 0 0, .int .i64 0, .int .i64 0, .int .i64 0, .int .i64 0, .int .i64 0, .int .i64 0, .slice none 0 0, .int .i64 0, .int .i64 0, .slice none 0 0, .slice none 0 0, .int .i64 0, .bool false, .int .i64 0, .int .i64 0, .slice none 0 0] 112)).setCells (w.heap.size + 2) 0 [.int .i64 1, .int .i64 0, .int .i64 0, .slice none 0 0, .int .i64 1, .int .i64 0, .int .i64 0, .int .i64 0, .int .i64 0, .int .i64 0, .slice none 0 0, .int .i64 0, .int .i64 0, .slice none 0 0, .slice none 0 0, .int .i64 0, .bool false, .int .i64 0, .int .i64 0, .slice none 0 0]) := Fr.setCells (S := fun k => k = w.heap.size + 2) rfl _ _ _ (Fr.refl _ _)
  have hO := hF.at (((At.new w [.int .i64 1, .int .i64 key, .int .i64 value, .slice sa sn sc] 82).alloc (.cells #[.int .i64 0, .int .i64 0, .int .i64 0, .slice none 0 0, .int .i64 0, .int .i64 0, .int .i64 0, .int .i64 0, .int .i64 0, .int .i64 0, .slice none 0 0, .int .i64 0, .int .i64 0, .slice none 0 0, .slice none 0 0, .int .i64 0, .bool false, .int .i64 0, .int .i64 0, .slice none 0 0] 112)).alloc (.cells #[.int .i64 0, .int .i64 0, .int .i64 0, .slice none 0 0, .int .i64 0, .int .i64 0, .int .i64 0, .int .i64 0, .int .i64 0, .int .i64 0, .slice none 0 0, .int .i64 0, .int .i64 0, .slice none 0 0, .slice none 0 0, .int .i64 0, .bool false, .int .i64 0, .int .i64 0, .slice none 0 0] 112)) (by omega)
  have hR := hF.at ((At.newAt (w := w.alloc (.cells #[.int .i64 1, .int .i64 key, .int .i64 value, .slice sa sn sc] 82)) (b := w.heap.size + 1) (by simp) [.int .i64 0, .int .i64 0, .int .i64 0, .slice none 0 0, .int .i64 0, .int .i64 0, .int .i64 0, .int .i64 0, .int .i64 0, .int .i64 0, .slice none 0 0, .int .i64 0, .int .i64 0, .slice none 0 0, .slice none 0 0, .int .i64 0, .bool false, .int .i64 0, .int .i64 0, .slice none 0 0] 112).alloc (.cells #[.int .i64 0, .int .i64 0, .int .i64 0, .slice none 0 0, .int .i64 0, .int .i64 0, .int .i64 0, .int .i64 0, .int .i64 0, .int .i64 0, .slice none 0 0, .int .i64 0, .int .i64 0, .slice none 0 0, .slice none 0 0, .int .i64 0, .bool false, .int .i64 0, .int .i64 0, .slice none 0 0] 112)) (by omega)
  have hV := At.setCells [.int .i64 1, .int .i64 0, .int .i64 0, .slice none 0 0, .int .i64 1, .int .i64 0, .int .i64 0, .int .i64 0, .int .i64 0, .int .i64 0, .slice none 0 0, .int .i64 0, .int .i64 0, .slice none 0 0, .slice none 0 0, .int .i64 0, .bool false, .int .i64 0, .int .i64 0, .slice none 0 0] 0 _ _ (At.newAt (w := (w.alloc (.cells #[.int .i64 1, .int .i64 key, .int .i64 value, .slice sa sn sc] 82)).alloc (.cells #[.int .i64 0, .int .i64 0, .int .i64 0, .slice none 0 0, .int .i64 0, .int .i64 0, .int .i64 0, .int .i64 0, .int .i64 0, .int .i64 0, .slice none 0 0, .int .i64 0, .int .i64 0, .slice none 0 0, .slice none 0 0, .int .i64 0, .bool false, .int .i64 0, .int .i64 0, .slice none 0 0] 112)) (b := w.heap.size + 2) (by simp) [.int .i64 0, .int .i64 0, .int .i64 0, .slice none 0 0, .int .i64 0, .int .i64 0, .int .i64 0, .int .i64 0, .int .i64 0, .int .i64 0, .slice none 0 0, .int .i64 0, .int .i64 0, .slice none 0 0, .slice none 0 0, .int .i64 0, .bool false, .int .i64 0, .int .i64 0, .slice none 0 0] 112)
  have hFF : Fr (fun _ => False) w ((((w.alloc (.cells #[.int .i64 1, .int .i64 key, .int .i64 value, .slice sa sn sc] 82)).alloc (.cells #[.int .i64 0, .int .i64 0, .int .i64 0, .slice none 0 0, .int .i64 0, .int .i64 0, .int .i64 0, .int .i64 0, .int .i64 0, .int .i64 0, .slice none 0 0, .int .i64 0, .int .i64 0, .slice none 0 0, .slice none 0 0, .int .i64 0, .bool false, .int .i64 0, .int .i64 0, .slice none 0 0] 112)).alloc (.cells #[.int .i64 0, .int .i64 0, .int .i64 0, .slice none 0 0, .int .i64 0, .int .i64 0, .int .i64 0, .int .i64 0, .int .i64 0, .int .i64 0, .slice none 0 0, .int .i64 0, .int .i64 0, .slice none 0 0, .slice none 0 0, .int .i64 0, .bool false, .int .i64 0, .int .i64 0, .slice none 0 0] 112)).setCells (w.heap.size + 2) 0 [.int .i64 1, .int .i64 0, .int .i64 0, .slice none 0 0, .int .i64 1, .int .i64 0, .int .i64 0, .int .i64 0, .int .i64 0, .int .i64 0, .slice none 0 0, .int .i64 0, .int .i64 0, .slice none 0 0, .slice none 0 0, .int .i64 0, .bool false, .int .i64 0, .int .i64 0, .slice none 0 0]) := Fr.transNew (((((Fr.refl _ _).alloc _).alloc _).alloc _)) hF (by rintro i rfl; right; omega)
  simp only [setAll, List.set_cons_zero, List.set_cons_succ] at hV
  have HO := (show Hid (At _ w.heap.size _ _) from hO)
  have HR := (show Hid (At _ (w.heap.size + 1) _ _) from hR)
  have HV := (show Hid (At _ (w.heap.size + 2) _ _) from hV)
  have HFF := (show Hid (Fr _ w _) from hFF)
  clear hF hO hR hV hFF
  generalize ((((w.alloc (.cells #[.int .i64 1, .int .i64 key, .int .i64 value, .slice sa sn sc] 82)).alloc (.cells #[.int .i64 0, .int .i64 0, .int .i64 0, .slice none 0 0, .int .i64 0, .int .i64 0, .int .i64 0, .int .i64 0, .int .i64 0, .int .i64 0, .slice none 0 0, .int .i64 0, .int .i64 0, .slice none 0 0, .slice none 0 0, .int .i64 0, .bool false, .int .i64 0, .int .i64 0, .slice none 0 0] 112)).alloc (.cells #[.int .i64 0, .int .i64 0, .int .i64 0, .slice none 0 0, .int .i64 0, .int .i64 0, .int .i64 0, .int .i64 0, .int .i64 0, .int .i64 0, .slice none 0 0, .int .i64 0, .int .i64 0, .slice none 0 0, .slice none 0 0, .int .i64 0, .bool false, .int .i64 0, .int .i64 0, .slice none 0 0] 112)).setCells (w.heap.size + 2) 0 [.int .i64 1, .int .i64 0, .int .i64 0, .slice none 0 0, .int .i64 1, .int .i64 0, .int .i64 0, .int .i64 0, .int .i64 0, .int .i64 0, .slice none 0 0, .int .i64 0, .int .i64 0, .slice none 0 0, .slice none 0 0, .int .i64 0, .bool false, .int .i64 0, .int .i64 0, .slice none 0 0]) = w1 at *
  have ho := HO.out.cell
  have hv := HV.out.cell
  have hvz := HV.out.frozen
  have hV2 := (HV.out.set 1 (.int .i64 key)).set 2 (.int .i64 value)
  simp only [List.set_cons_zero, List.set_cons_succ] at hV2
  have hR2 := ((HR.out.setOther ⟨w.heap.size + 2, 1, none⟩ (by simp) (.int .i64 key)).setOther ⟨w.heap.size + 2, 2, none⟩ (by simp) (.int .i64 value))
  have hF2 : Fr (fun _ => False) w ((w1.setCell ⟨w.heap.size + 2, 1, none⟩ (.int .i64 key)).setCell ⟨w.heap.size + 2, 2, none⟩ (.int .i64 value)) := Fr.setNew (by omega) (Fr.setNew (by omega) HFF.out _ _) _ _
  have HV2 := (show Hid (At _ (w.heap.size + 2) _ _) from hV2)
  have HR2 := (show Hid (At _ (w.heap.size + 1) _ _) from hR2)
  have HF2 := (show Hid (Fr _ w _) from hF2)
  clear hV2 hR2 hF2 HO HR HV HFF
  go_upto_region 16 with fail
  generalize ((w1.setCell ⟨w.heap.size + 2, 1, none⟩ (.int .i64 key)).setCell ⟨w.heap.size + 2, 2, none⟩ (.int .i64 value)) = w2 at *
  clear ho hv hvz
  have hag : ∀ w : World, (isAgg 112).run Tryz.prog w = .ok true w := fun _ => by kernel_rfl
  go_wp2_with (first
    | refine wpList_loadAgg w2 rfl _ 112 rfl (w.heap.size + 2) 0 [.int .i64 1, .int .i64 key, .int .i64 value, .slice none 0 0, .int .i64 1, .int .i64 0, .int .i64 0, .int .i64 0, .int .i64 0, .int .i64 0, .slice none 0 0, .int .i64 0, .int .i64 0, .slice none 0 0, .slice none 0 0, .int .i64 0, .bool false, .int .i64 0, .int .i64 0, .slice none 0 0] rfl hag hws (by intro j v hv; rw [Nat.zero_add, HV2.out.cell]; exact hv) ?_
    | refine wpList_storeAgg w2 rfl _ _ 112 rfl (w.heap.size + 1) 0 [.int .i64 1, .int .i64 key, .int .i64 value, .slice none 0 0, .int .i64 1, .int .i64 0, .int .i64 0, .int .i64 0, .int .i64 0, .int .i64 0, .slice none 0 0, .int .i64 0, .int .i64 0, .slice none 0 0, .slice none 0 0, .int .i64 0, .bool false, .int .i64 0, .int .i64 0, .slice none 0 0] rfl rfl hws _ _ HR2.out (by simp) (by simp [Value.oneCell']) ?_)
  have hA3 := At.setCells [.int .i64 1, .int .i64 key, .int .i64 value, .slice none 0 0, .int .i64 1, .int .i64 0, .int .i64 0, .int .i64 0, .int .i64 0, .int .i64 0, .slice none 0 0, .int .i64 0, .int .i64 0, .slice none 0 0, .slice none 0 0, .int .i64 0, .bool false, .int .i64 0, .int .i64 0, .slice none 0 0] 0 w2 _ HR2.out
  simp only [setAll, List.set_cons_zero, List.set_cons_succ] at hA3
  refine bodyPost_ret (results_cellAgg (P := Tryz.prog) (k := 2) (t := 112) rfl _ _ (w.heap.size + 1) 0 [.int .i64 1, .int .i64 key, .int .i64 value, .slice none 0 0, .int .i64 1, .int .i64 0, .int .i64 0, .int .i64 0, .int .i64 0, .int .i64 0, .slice none 0 0, .int .i64 0, .int .i64 0, .slice none 0 0, .slice none 0 0, .int .i64 0, .bool false, .int .i64 0, .int .i64 0, .slice none 0 0] rfl hag hws (by intro j v hv; rw [Nat.zero_add, hA3.cell]; exact hv)) rfl ?_
  refine ⟨rfl, ?_⟩
  exact Fr.transNew HF2.out (Fr.setCells (S := fun k => k = w.heap.size + 1) rfl _ _ _ (Fr.refl _ _)) (by rintro i rfl; right; omega)

set_option maxHeartbeats 4000000 in
set_option maxRecDepth 100000 in
theorem newWork_calls2 (key value : Int) (sa : Option Addr) (sn sc : Nat) (spans : List (Int × Int)) (w : World) :
    Calls Tryz.prog 92 #[opVal 2 key value (.slice sa sn sc)] w fun e w' => e = .returned (.agg (workCells (newWork 2 key value spans)).toArray) ∧ Fr (fun _ => False) w w' := by
  have hws := work_size
  unfold opVal
  go_enter Tryz.func92, Tryz.ntmps92
  go_upto_region 2 with (refine wpList_storeAgg _ rfl _ _ 112 rfl (w.heap.size + 2) 0 [.int .i64 2, .int .i64 0, .int .i64 0, .slice none 0 0, .int .i64 1, .int .i64 0, .int .i64 0, .int .i64 0, .int .i64 0, .int .i64 0, .slice none 0 0, .int .i64 0, .int .i64 0, .slice none 0 0, .slice none 0 0, .int .i64 0, .bool false, .int .i64 0, .int .i64 0, .slice none 0 0] rfl rfl hws zeroCells 112 (At.newAt (by simp) _ _) (by simp [zeroCells, workCells]) (by simp [Value.oneCell']) ?_)
  have hF : Fr (fun k => k = w.heap.size + 2) (((w.alloc (.cells #[.int .i64 2, .int .i64 key, .int .i64 value, .slice sa sn sc] 82)).alloc (.cells #[.int .i64 0, .int .i64 0, .int .i64 0, .slice none 0 0, .int .i64 0, .int .i64 0, .int .i64 0, .int .i64 0, .int .i64 0, .int .i64 0, .slice none 0 0, .int .i64 0, .int .i64 0, .slice none 0 0, .slice none 0 0, .int .i64 0, .bool false, .int .i64 0, .int .i64 0, .slice none 0 0] 112)).alloc (.cells #[.int .i64 0, .int .i64 0, .int .i64 0, .slice none 0 0, .int .i64 0, .int .i64 0, .int .i64 0, .int .i64 0, .int .i64 0, .int .i64 0, .slice none 0 0, .int .i64 0, .int .i64 0, .slice none 0 0, .slice none 0 0, .int .i64 0, .bool false, .int .i64 0, .int .i64 0, .slice none 0 0] 112)) ((((w.alloc (.cells #[.int .i64 2, .int .i64 key, .int .i64 value, .slice sa sn sc] 82)).alloc (.cells #[.int .i64 0, .int .i64 0, .int .i64 0, .slice none 0 0, .int .i64 0, .int .i64 0, .int .i64 0, .int .i64 0, .int .i64 0, .int .i64 0, .slice none 0 0, .int .i64 0, .int .i64 0, .slice none 0 0, .slice none 0 0, .int .i64 0, .bool false, .int .i64 0, .int .i64 0, .slice none 0 0] 112)).alloc (.cells #[.int .i64 0, .int .i64 0, .int .i64 0, .slice none 0 0, .int .i64 0, .int .i64 0, .int .i64 0, .int .i64 0, .int .i64 0, .int .i64 0, .slice none 0 0, .int .i64 0, .int .i64 0, .slice none 0 0, .slice none 0 0, .int .i64 0, .bool false, .int .i64 0, .int .i64 0, .slice none 0 0] 112)).setCells (w.heap.size + 2) 0 [.int .i64 2, .int .i64 0, .int .i64 0, .slice none 0 0, .int .i64 1, .int .i64 0, .int .i64 0, .int .i64 0, .int .i64 0, .int .i64 0, .slice none 0 0, .int .i64 0, .int .i64 0, .slice none 0 0, .slice none 0 0, .int .i64 0, .bool false, .int .i64 0, .int .i64 0, .slice none 0 0]) := Fr.setCells (S := fun k => k = w.heap.size + 2) rfl _ _ _ (Fr.refl _ _)
  have hO := hF.at (((At.new w [.int .i64 2, .int .i64 key, .int .i64 value, .slice sa sn sc] 82).alloc (.cells #[.int .i64 0, .int .i64 0, .int .i64 0, .slice none 0 0, .int .i64 0, .int .i64 0, .int .i64 0, .int .i64 0, .int .i64 0, .int .i64 0, .slice none 0 0, .int .i64 0, .int .i64 0, .slice none 0 0, .slice none 0 0, .int .i64 0, .bool false, .int .i64 0, .int .i64 0, .slice none 0 0] 112)).alloc (.cells #[.int .i64 0, .int .i64 0, .int .i64 0, .slice none 0 0, .int .i64 0, .int .i64 0, .int .i64 0, .int .i64 0, .int .i64 0, .int .i64 0, .slice none 0 0, .int .i64 0, .int .i64 0, .slice none 0 0, .slice none 0 0, .int .i64 0, .bool false, .int .i64 0, .int .i64 0, .slice none 0 0] 112)) (by omega)
  have hR := hF.at ((At.newAt (w := w.alloc (.cells #[.int .i64 2, .int .i64 key, .int .i64 value, .slice sa sn sc] 82)) (b := w.heap.size + 1) (by simp) [.int .i64 0, .int .i64 0, .int .i64 0, .slice none 0 0, .int .i64 0, .int .i64 0, .int .i64 0, .int .i64 0, .int .i64 0, .int .i64 0, .slice none 0 0, .int .i64 0, .int .i64 0, .slice none 0 0, .slice none 0 0, .int .i64 0, .bool false, .int .i64 0, .int .i64 0, .slice none 0 0] 112).alloc (.cells #[.int .i64 0, .int .i64 0, .int .i64 0, .slice none 0 0, .int .i64 0, .int .i64 0, .int .i64 0, .int .i64 0, .int .i64 0, .int .i64 0, .slice none 0 0, .int .i64 0, .int .i64 0, .slice none 0 0, .slice none 0 0, .int .i64 0, .bool false, .int .i64 0, .int .i64 0, .slice none 0 0] 112)) (by omega)
  have hV := At.setCells [.int .i64 2, .int .i64 0, .int .i64 0, .slice none 0 0, .int .i64 1, .int .i64 0, .int .i64 0, .int .i64 0, .int .i64 0, .int .i64 0, .slice none 0 0, .int .i64 0, .int .i64 0, .slice none 0 0, .slice none 0 0, .int .i64 0, .bool false, .int .i64 0, .int .i64 0, .slice none 0 0] 0 _ _ (At.newAt (w := (w.alloc (.cells #[.int .i64 2, .int .i64 key, .int .i64 value, .slice sa sn sc] 82)).alloc (.cells #[.int .i64 0, .int .i64 0, .int .i64 0, .slice none 0 0, .int .i64 0, .int .i64 0, .int .i64 0, .int .i64 0, .int .i64 0, .int .i64 0, .slice none 0 0, .int .i64 0, .int .i64 0, .slice none 0 0, .slice none 0 0, .int .i64 0, .bool false, .int .i64 0, .int .i64 0, .slice none 0 0] 112)) (b := w.heap.size + 2) (by simp) [.int .i64 0, .int .i64 0, .int .i64 0, .slice none 0 0, .int .i64 0, .int .i64 0, .int .i64 0, .int .i64 0, .int .i64 0, .int .i64 0, .slice none 0 0, .int .i64 0, .int .i64 0, .slice none 0 0, .slice none 0 0, .int .i64 0, .bool false, .int .i64 0, .int .i64 0, .slice none 0 0] 112)
  have hFF : Fr (fun _ => False) w ((((w.alloc (.cells #[.int .i64 2, .int .i64 key, .int .i64 value, .slice sa sn sc] 82)).alloc (.cells #[.int .i64 0, .int .i64 0, .int .i64 0, .slice none 0 0, .int .i64 0, .int .i64 0, .int .i64 0, .int .i64 0, .int .i64 0, .int .i64 0, .slice none 0 0, .int .i64 0, .int .i64 0, .slice none 0 0, .slice none 0 0, .int .i64 0, .bool false, .int .i64 0, .int .i64 0, .slice none 0 0] 112)).alloc (.cells #[.int .i64 0, .int .i64 0, .int .i64 0, .slice none 0 0, .int .i64 0, .int .i64 0, .int .i64 0, .int .i64 0, .int .i64 0, .int .i64 0, .slice none 0 0, .int .i64 0, .int .i64 0, .slice none 0 0, .slice none 0 0, .int .i64 0, .bool false, .int .i64 0, .int .i64 0, .slice none 0 0] 112)).setCells (w.heap.size + 2) 0 [.int .i64 2, .int .i64 0, .int .i64 0, .slice none 0 0, .int .i64 1, .int .i64 0, .int .i64 0, .int .i64 0, .int .i64 0, .int .i64 0, .slice none 0 0, .int .i64 0, .int .i64 0, .slice none 0 0, .slice none 0 0, .int .i64 0, .bool false, .int .i64 0, .int .i64 0, .slice none 0 0]) := Fr.transNew (((((Fr.refl _ _).alloc _).alloc _).alloc _)) hF (by rintro i rfl; right; omega)
  simp only [setAll, List.set_cons_zero, List.set_cons_succ] at hV
  have HO := (show Hid (At _ w.heap.size _ _) from hO)
  have HR := (show Hid (At _ (w.heap.size + 1) _ _) from hR)
  have HV := (show Hid (At _ (w.heap.size + 2) _ _) from hV)
  have HFF := (show Hid (Fr _ w _) from hFF)
  clear hF hO hR hV hFF
  generalize ((((w.alloc (.cells #[.int .i64 2, .int .i64 key, .int .i64 value, .slice sa sn sc] 82)).alloc (.cells #[.int .i64 0, .int .i64 0, .int .i64 0, .slice none 0 0, .int .i64 0, .int .i64 0, .int .i64 0, .int .i64 0, .int .i64 0, .int .i64 0, .slice none 0 0, .int .i64 0, .int .i64 0, .slice none 0 0, .slice none 0 0, .int .i64 0, .bool false, .int .i64 0, .int .i64 0, .slice none 0 0] 112)).alloc (.cells #[.int .i64 0, .int .i64 0, .int .i64 0, .slice none 0 0, .int .i64 0, .int .i64 0, .int .i64 0, .int .i64 0, .int .i64 0, .int .i64 0, .slice none 0 0, .int .i64 0, .int .i64 0, .slice none 0 0, .slice none 0 0, .int .i64 0, .bool false, .int .i64 0, .int .i64 0, .slice none 0 0] 112)).setCells (w.heap.size + 2) 0 [.int .i64 2, .int .i64 0, .int .i64 0, .slice none 0 0, .int .i64 1, .int .i64 0, .int .i64 0, .int .i64 0, .int .i64 0, .int .i64 0, .slice none 0 0, .int .i64 0, .int .i64 0, .slice none 0 0, .slice none 0 0, .int .i64 0, .bool false, .int .i64 0, .int .i64 0, .slice none 0 0]) = w1 at *
  have ho := HO.out.cell
  have hv := HV.out.cell
  have hvz := HV.out.frozen
  have hV2 := HV.out.set 1 (.int .i64 key)
  simp only [List.set_cons_zero, List.set_cons_succ] at hV2
  have hR2 := (HR.out.setOther ⟨w.heap.size + 2, 1, none⟩ (by simp) (.int .i64 key))
  have hF2 : Fr (fun _ => False) w (w1.setCell ⟨w.heap.size + 2, 1, none⟩ (.int .i64 key)) := Fr.setNew (by omega) HFF.out _ _
  have HV2 := (show Hid (At _ (w.heap.size + 2) _ _) from hV2)
  have HR2 := (show Hid (At _ (w.heap.size + 1) _ _) from hR2)
  have HF2 := (show Hid (Fr _ w _) from hF2)
  clear hV2 hR2 hF2 HO HR HV HFF
  go_upto_region 16 with fail
  generalize (w1.setCell ⟨w.heap.size + 2, 1, none⟩ (.int .i64 key)) = w2 at *
  clear ho hv hvz
  have hag : ∀ w : World, (isAgg 112).run Tryz.prog w = .ok true w := fun _ => by kernel_rfl
  go_wp2_with (first
    | refine wpList_loadAgg w2 rfl _ 112 rfl (w.heap.size + 2) 0 [.int .i64 2, .int .i64 key, .int .i64 0, .slice none 0 0, .int .i64 1, .int .i64 0, .int .i64 0, .int .i64 0, .int .i64 0, .int .i64 0, .slice none 0 0, .int .i64 0, .int .i64 0, .slice none 0 0, .slice none 0 0, .int .i64 0, .bool false, .int .i64 0, .int .i64 0, .slice none 0 0] rfl hag hws (by intro j v hv; rw [Nat.zero_add, HV2.out.cell]; exact hv) ?_
    | refine wpList_storeAgg w2 rfl _ _ 112 rfl (w.heap.size + 1) 0 [.int .i64 2, .int .i64 key, .int .i64 0, .slice none 0 0, .int .i64 1, .int .i64 0, .int .i64 0, .int .i64 0, .int .i64 0, .int .i64 0, .slice none 0 0, .int .i64 0, .int .i64 0, .slice none 0 0, .slice none 0 0, .int .i64 0, .bool false, .int .i64 0, .int .i64 0, .slice none 0 0] rfl rfl hws _ _ HR2.out (by simp) (by simp [Value.oneCell']) ?_)
  have hA3 := At.setCells [.int .i64 2, .int .i64 key, .int .i64 0, .slice none 0 0, .int .i64 1, .int .i64 0, .int .i64 0, .int .i64 0, .int .i64 0, .int .i64 0, .slice none 0 0, .int .i64 0, .int .i64 0, .slice none 0 0, .slice none 0 0, .int .i64 0, .bool false, .int .i64 0, .int .i64 0, .slice none 0 0] 0 w2 _ HR2.out
  simp only [setAll, List.set_cons_zero, List.set_cons_succ] at hA3
  refine bodyPost_ret (results_cellAgg (P := Tryz.prog) (k := 2) (t := 112) rfl _ _ (w.heap.size + 1) 0 [.int .i64 2, .int .i64 key, .int .i64 0, .slice none 0 0, .int .i64 1, .int .i64 0, .int .i64 0, .int .i64 0, .int .i64 0, .int .i64 0, .slice none 0 0, .int .i64 0, .int .i64 0, .slice none 0 0, .slice none 0 0, .int .i64 0, .bool false, .int .i64 0, .int .i64 0, .slice none 0 0] rfl hag hws (by intro j v hv; rw [Nat.zero_add, hA3.cell]; exact hv)) rfl ?_
  refine ⟨rfl, ?_⟩
  exact Fr.transNew HF2.out (Fr.setCells (S := fun k => k = w.heap.size + 1) rfl _ _ _ (Fr.refl _ _)) (by rintro i rfl; right; omega)
end Go.Proofs.YtfccelbmacjifaaGreat

namespace Go.Proofs.YtfccelbmacjifaaGreat
open Go.RowKit
section
variable {own : Own} {z : Nat} {w : World} {L : ZLay} {P : PSt}
/-- An operation begins. -/
theorem ZAt.wkBegin (h : ZAt own z w L P) {w' : World} {i : Nat} {l : WLay} {t t' : PThread} (hl : L.wks[i]? = some l) (ht : P.ts[i]? = some t) (hf : Fr (fun k => k = l.b) w w')
    (hA : At w' l.b (t'.cells i ⟨l.b, .slice none 0 0, .slice none 0 0, .slice none 0 0, .slice none 0 0, .slice none 0 0, l.lspans⟩) 114)
    (e1 : t'.work.spans = []) (e2 : t'.work.made = []) (e3 : t'.work.links = []) (e4 : t'.work.noted = []) (e6 : t'.work.ans.spans = []) (e7 : t'.last.spans = t.last.spans) : ZGoes own z w L (P.setT i t') w' := by
  have hT := h.wk i l t hl ht
  have hF : FrT own z (fun t => t = .thread i ∨ ∃ k, t = .tr i k) w w' := FrT.one hf hT.tg (.inl rfl)
  have hn : ∀ tag, tag ≠ Tag.thread i → ∀ k, own k = ⟨z, tag⟩ → ¬ k = l.b := by
    rintro tag hne k hk rfl; rw [hT.tg] at hk; simp at hk; exact hne hk.symm
  have hE := Ext.refl own w
  refine ⟨own, { L with wks := L.wks.set i ⟨l.b, .slice none 0 0, .slice none 0 0, .slice none 0 0, .slice none 0 0, .slice none 0 0, l.lspans⟩ }, h.wkSet hl rfl hF hE ⟨hA, hT.tg, ?_, ?_, ?_, ?_, ?_, ?_⟩, hE, hF.zone, rfl, rfl, ?_⟩
  · rw [e1]; exact Row.nil _ _ _ _ _ _
  · rw [e2]; exact Row.nil _ _ _ _ _ _
  · rw [e3]; exact Row.nil _ _ _ _ _ _
  · rw [e4]; exact Row.nil _ _ _ _ _ _
  · rw [e6]; exact ListsAt.none _ _ _
  · rw [e7]; exact hT.llists.fr hf hE (hn _ (by simp))
  · show (L.wks.set i _).map (·.b) = _
    rw [List.map_set]
    exact setL_same (by simp [hl])

theorem newWork_calls (kind key value : Int) (sa : Option Addr) (sn sc : Nat) (spans : List (Int × Int)) (w : World) (hkd : kind = 1 ∨ kind = 2) :
    Calls Tryz.prog 92 #[opVal kind key value (.slice sa sn sc)] w fun e w' => e = .returned (.agg (workCells (newWork kind key value spans)).toArray) ∧ Fr (fun _ => False) w w' := by
  rcases hkd with rfl | rfl
  · exact newWork_calls1 key value sa sn sc spans w
  · exact newWork_calls2 key value sa sn sc spans w
theorem newWork_lists (kind key value : Int) (spans : List (Int × Int)) (hkd : kind = 1 ∨ kind = 2) : (newWork kind key value spans).spans = [] ∧ (newWork kind key value spans).made = [] ∧ (newWork kind key value spans).links = [] ∧ (newWork kind key value spans).noted = [] ∧ (newWork kind key value spans).ans.spans = [] := by
  rcases hkd with rfl | rfl <;> exact ⟨rfl, rfl, rfl, rfl, rfl⟩
theorem checkOp_upd (kind key : Int) (spans : List (Int × Int)) (hkd : kind = 1 ∨ kind = 2) : checkOp kind key spans = if isIn key 0 (2 ^ 40) then 0 else 5 := by
  unfold checkOp; rw [if_pos (by omega)]

set_option maxHeartbeats 4000000 in
set_option maxRecDepth 100000 in
theorem ZBegin_calls (h : ZAt own z w L P) (i kind key value : Int) (sa : Option Addr) (sn sc : Nat) (spans : List (Int × Int)) (hkd : kind = 1 ∨ kind = 2) :
    Calls Tryz.prog 66 #[.pointer (some ⟨L.s, 0, none⟩), .int .i64 i, opVal kind key value (.slice sa sn sc)] w fun e w' => e = .returned (.int .i64 (P.begin i kind key value spans).2) ∧ ZGoes own z w L (P.begin i kind key value spans).1 w' := by
  have hF0 : Fr (fun _ => False) w (w.alloc (.cells #[.int .i64 kind, .int .i64 key, .int .i64 value, .slice sa sn sc] 82)) := (Fr.refl _ _).alloc _
  have H := (show Hid (ZAt own z _ L P) from h.calm hF0)
  have HO := (show Hid (At _ w.heap.size _ _) from At.new w [.int .i64 kind, .int .i64 key, .int .i64 value, .slice sa sn sc] 82)
  have HF0 := (show Hid (Fr (fun _ => False) w _) from hF0)
  clear h hF0
  cases hI : isIn i 0 (P.ts.length - 1)
  · have hE : Hid (P.begin i kind key value spans = (P, 2)) := by show _ = _; simp [PSt.begin, hI]
    unfold opVal
    go_enter Tryz.func66, Tryz.ntmps66
    go_wp2_with fail
    refine (ZhasThread_calls H.out i).mono ?_
    rintro e w' ⟨rfl, rfl⟩
    rw [hI]
    go_wp2
    go_ret
    rw [hE.out]
    exact ⟨rfl, ZGoes.calm HF0.out (ZGoes.here ⟨H.out, Fr.refl _ _⟩)⟩
  · obtain ⟨h0, h1⟩ := isIn_iff.1 hI
    obtain ⟨j, rfl⟩ := Int.eq_ofNat_of_zero_le h0
    have hlt : j < P.ts.length := by omega
    have ht : P.ts[j]? = some P.ts[j] := List.getElem?_eq_getElem hlt
    generalize P.ts[j] = t at ht
    have hth : P.th j = t := by simp [PSt.th, ht]
    obtain ⟨l, tb, cap, hl, htv, hptr⟩ := H.out.wkPtr ht
    obtain ⟨ha, haz, hal, hs, hsz, hsl, n1, n2⟩ := H.out.view hl ht
    have hfew := H.out.few
    have HT := (show Hid (At _ l.b _ _) from (H.out.wk j l t hl ht).at_)
    have HL := (show Hid (L.wks[j]? = some l) from hl)
    have Ht := (show Hid (P.ts[j]? = some t) from ht)
    have hne : w.heap.size ≠ l.b := HO.out.ne HT.out (by decide)
    have hoc := HO.out.cell
    simp only [PThread.cells, PSt.head, htv] at ha hs
    clear hl ht h0 h1 hsz
    cases hb : t.busy
    · rw [hb] at ha
      cases hky : isIn key 0 (2 ^ 40)
      · have hE : Hid (P.begin j kind key value spans = (P, 5)) := by show _ = _; unfold PSt.begin; rw [hI, Int.toNat_natCast, hth, hb, checkOp_upd kind key spans hkd, hky]; simp
        unfold opVal
        go_enter Tryz.func66, Tryz.ntmps66
        go_wp2_with fail
        refine (ZhasThread_calls H.out j).mono ?_
        rintro e w' ⟨rfl, rfl⟩
        rw [hI]
        go_wp2_with fail
        refine (checkOp_calls kind key value (.slice sa sn sc) _ hkd).mono ?_
        rintro e w1 ⟨rfl, hF⟩
        rw [hky]
        have HF1 := (show Hid (Fr (fun _ => False) w w1) from HF0.out.trans hF)
        have H1 := (show Hid (ZAt own z w1 L P) from H.out.calm hF)
        clear hF ha hs hoc hptr haz
        go_wp2
        go_ret
        rw [hE.out]
        exact ⟨rfl, ZGoes.calm HF1.out (ZGoes.here ⟨H1.out, Fr.refl _ _⟩)⟩
      · have hE : Hid (P.begin j kind key value spans = (P.setT j { t with busy := true, work := newWork kind key value spans }, 0)) := by
          show _ = _; unfold PSt.begin; rw [hI, Int.toNat_natCast, hth, hb, checkOp_upd kind key spans hkd, hky]; simp
        unfold opVal
        go_enter Tryz.func66, Tryz.ntmps66
        go_wp2_with fail
        refine (ZhasThread_calls H.out j).mono ?_
        rintro e w' ⟨rfl, rfl⟩
        rw [hI]
        go_wp2_with fail
        refine (checkOp_calls kind key value (.slice sa sn sc) _ hkd).mono ?_
        rintro e w1 ⟨rfl, hF⟩
        rw [hky]
        have HF1 := (show Hid (Fr (fun _ => False) w w1) from HF0.out.trans hF)
        have H1 := (show Hid (ZAt own z w1 L P) from H.out.calm hF)
        have HO1 := (show Hid (At w1 w.heap.size _ _) from hF.at HO.out (fun h => h))
        clear hF ha hs hoc hptr haz HO HT H HF0
        have HT1 := (show Hid (At w1 l.b _ _) from (H1.out.wk j l t HL.out Ht.out).at_)
        have ha := HT1.out.cell
        have haz := HT1.out.frozen
        have hoc := HO1.out.cell
        simp only [PThread.cells] at ha
        go_wp2_with fail
        refine (newWork_calls kind key value sa sn sc spans _ hkd).mono ?_
        rintro e w2 ⟨rfl, hF⟩
        have hA2 := hF.at (HT1.out.set 2 (.bool true)) (fun h => h)
        have HA2 := (show Hid (At w2 l.b _ _) from hA2)
        have HF2 := (show Hid (Fr (fun k => k = l.b) w1 w2) from ((Fr.refl _ _).set1 _ _).trans (Fr.mono hF (fun _ _ h => h.elim)))
        clear hF hA2 ha haz hoc HT1 HO1
        generalize hwc : workCells (newWork kind key value spans) = vs
        have hvl : vs.length = 20 := by rw [← hwc]; rfl
        have hv1 : ∀ v ∈ vs, v.oneCell' = true := by rw [← hwc]; exact workCells_one _
        have hws : ∀ w : World, (sizeOf 112).run Tryz.prog w = .ok vs.length w := by rw [hvl]; exact work_size
        go_wp2_with (refine wpList_storeAgg w2 rfl _ _ 112 rfl l.b 3 vs rfl rfl hws _ _ HA2.out (by simp [PThread.cells, hvl]) hv1 ?_)
        go_ret
        rw [hE.out]
        refine ⟨rfl, ZGoes.calm HF1.out (H1.out.wkBegin HL.out Ht.out (t' := { t with busy := true, work := newWork kind key value spans }) (Fr.setCells (S := fun k => k = l.b) rfl _ _ _ HF2.out) ?_ (newWork_lists kind key value spans hkd).1 (newWork_lists kind key value spans hkd).2.1 (newWork_lists kind key value spans hkd).2.2.1 (newWork_lists kind key value spans hkd).2.2.2.1 (newWork_lists kind key value spans hkd).2.2.2.2 rfl)⟩
        have hX := At.setCells vs 3 w2 _ HA2.out
        rw [← hwc] at hX ⊢
        simp only [workCells, setAll, PThread.cells, List.set_cons_zero, List.set_cons_succ] at hX
        simp only [PThread.cells]
        exact hX
    · rw [hb] at ha
      have hE : Hid (P.begin j kind key value spans = (P, 3)) := by show _ = _; simp [PSt.begin, hI, hth, hb]
      unfold opVal
      go_enter Tryz.func66, Tryz.ntmps66
      go_wp2_with fail
      refine (ZhasThread_calls H.out j).mono ?_
      rintro e w' ⟨rfl, rfl⟩
      rw [hI]
      go_wp2
      go_ret
      rw [hE.out]
      exact ⟨rfl, ZGoes.calm HF0.out (ZGoes.here ⟨H.out, Fr.refl _ _⟩)⟩
end
end Go.Proofs.YtfccelbmacjifaaGreat

namespace Go.Proofs.YtfccelbmacjifaaGreat
open Go.RowKit
set_option maxHeartbeats 1000000 in
theorem copyLists_nil (w : World) : Calls Tryz.prog 96 #[.slice none 0 0] w fun e w' => e = .returned (.slice none 0 0) ∧ w' = w := by
  go_enter Tryz.func96, Tryz.ntmps96
  go_wp2
  go_loop [3, 9] (fun f i => f = .slice none 0 0 ∧ i = .int .i64 0) (fun _ _ => 0)
  case atStart => exact ⟨rfl, rfl⟩
  case round =>
    obtain ⟨rfl, rfl⟩ := hrel
    go_wp2
    go_ret
    exact ⟨rfl, rfl⟩
section
variable {own : Own} {z : Nat} {w : World} {L : ZLay} {P : PSt}
def PSt.answer (P : PSt) (i : Int) : BAns × Int :=
  if isIn i 0 (P.ts.length - 1) then (if (P.th i.toNat).hasEnded then ((P.th i.toNat).last, 0) else ({}, 4)) else ({}, 2)

set_option maxHeartbeats 2000000 in
set_option maxRecDepth 100000 in
theorem ZAnswer_calls (h : ZAt own z w L P) (i : Int) (hn : (P.answer i).1.spans = []) :
    Calls Tryz.prog 70 #[.pointer (some ⟨L.s, 0, none⟩), .int .i64 i] w fun e w' => e = .returned (.tuple #[ansVal (P.answer i).1, .int .i64 (P.answer i).2]) ∧ Fr (fun _ => False) w w' := by
  have hF0 : Fr (fun _ => False) w (w.alloc (.cells #[.int .i64 0, .bool false, .int .i64 0, .int .i64 0, .slice none 0 0] 93)) := (Fr.refl _ _).alloc _
  have H := (show Hid (ZAt own z _ L P) from h.calm hF0)
  have HF0 := (show Hid (Fr (fun _ => False) w _) from hF0)
  have hsl0 := h.hd.lt
  have H00 := (show Hid (ZAt own z w L P) from h)
  clear h hF0
  cases hI : isIn i 0 (P.ts.length - 1)
  · have hE : Hid (P.answer i = ({}, 2)) := by show _ = _; simp [PSt.answer, hI]
    rw [hE.out]
    go_enter Tryz.func70, Tryz.ntmps70
    go_wp2_with fail
    refine (ZhasThread_calls H.out i).mono ?_
    rintro e w' ⟨rfl, rfl⟩
    rw [hI]
    go_wp2
    exact bodyPost_ret (v := .tuple #[ansVal {}, .int .i64 2]) (by simp [results, Tryz.results70, go_sem, ansVal]) rfl ⟨rfl, (Fr.refl _ _).alloc _⟩
  · obtain ⟨h0, h1⟩ := isIn_iff.1 hI
    obtain ⟨j, rfl⟩ := Int.eq_ofNat_of_zero_le h0
    have hlt : j < P.ts.length := by omega
    have ht : P.ts[j]? = some P.ts[j] := List.getElem?_eq_getElem hlt
    generalize P.ts[j] = t at ht
    have hth : P.th j = t := by simp [PSt.th, ht]
    obtain ⟨l, tb, cap, hl, htv, hptr⟩ := H.out.wkPtr ht
    obtain ⟨ha, haz, hal, hs, hsz, hsl, n1, n2⟩ := H.out.view hl ht
    have hfew := H.out.few
    have hal0 := (H00.out.wk j l t hl ht).at_.lt
    have hla := (H.out.wk j l t hl ht).llists
    simp only [PThread.cells, PSt.head, htv] at ha hs
    clear hl ht h0 h1 hsz haz
    cases hb : t.hasEnded
    · have hE : Hid (P.answer j = ({}, 4)) := by show _ = _; unfold PSt.answer; rw [hI, Int.toNat_natCast, hth, hb]; simp
      rw [hE.out]
      rw [hb] at ha
      clear hla
      go_enter Tryz.func70, Tryz.ntmps70
      go_wp2_with fail
      refine (ZhasThread_calls H.out j).mono ?_
      rintro e w' ⟨rfl, rfl⟩
      rw [hI]
      go_wp2
      exact bodyPost_ret (v := .tuple #[ansVal {}, .int .i64 4]) (by simp [results, Tryz.results70, go_sem, ansVal]) rfl ⟨rfl, (Fr.refl _ _).alloc _⟩
    · have hE : Hid (P.answer j = (t.last, 0)) := by show _ = _; unfold PSt.answer; rw [hI, Int.toNat_natCast, hth, hb]; simp
      rw [hE.out] at hn ⊢
      have hln := hla.nil hn
      rw [hb, hln] at ha
      clear hla hln
      go_enter Tryz.func70, Tryz.ntmps70
      go_wp2_with fail
      refine (ZhasThread_calls H.out j).mono ?_
      rintro e w' ⟨rfl, rfl⟩
      rw [hI]
      go_wp2_with fail
      refine (copyLists_nil _).mono ?_
      rintro e w' ⟨rfl, rfl⟩
      go_wp2
      refine bodyPost_ret (v := .tuple #[ansVal t.last, .int .i64 0]) (by simp [results, Tryz.results70, go_sem, ansVal]) rfl ⟨rfl, ?_⟩
      repeat (with_reducible first | refine Fr.alloc ?_ _ | exact Fr.refl _ _)

set_option maxHeartbeats 400000 in
theorem ZRoom_calls (h : ZAt own z w L P) :
    Calls Tryz.prog 77 #[.pointer (some ⟨L.s, 0, none⟩)] w fun e w' => e = .returned (.tuple #[.int .i64 P.mem.room.1, .int .i64 P.mem.room.2]) ∧ w' = w := by
  have H := (show Hid (ZAt own z w L P) from h)
  have hc := h.hd.cell
  simp only [PSt.head] at hc
  clear h
  go_enter Tryz.func77, Tryz.ntmps77
  go_wp2_with fail
  refine (MRoom_calls H.out.mem).mono ?_
  rintro e w' ⟨rfl, rfl⟩
  go_wp2
  go_ret2
  exact ⟨rfl, rfl⟩

set_option maxHeartbeats 400000 in
theorem ZClock_calls (h : ZAt own z w L P) :
    Calls Tryz.prog 76 #[.pointer (some ⟨L.s, 0, none⟩)] w fun e w' => e = .returned (.int .i64 P.clock) ∧ w' = w := by
  have hc := h.hd.cell
  simp only [PSt.head] at hc
  clear h
  go_enter Tryz.func76, Tryz.ntmps76
  go_wp2
  go_ret
  exact ⟨rfl, rfl⟩
end
end Go.Proofs.YtfccelbmacjifaaGreat

namespace Go.Proofs.YtfccelbmacjifaaGreat
open Go.RowKit
/-- A new store. -/
def freshP (k t n e l : Int) : PSt := { kind := k, limit := l, clock := 0, mem := freshMem n.toNat e.toNat, ts := List.replicate t.toNat PThread.zero, sweep := PSweep.zero }
def ownWk (own : Own) (z : Nat) : List Nat → Nat → Own
  | [], _ => own
  | b :: r, i => (ownWk own z r (i + 1)).put b z (.thread i)
theorem ownWk_out (own : Own) (z : Nat) : ∀ (l : List Nat) (i k : Nat), k ∉ l → ownWk own z l i k = own k
  | [], _, _, _ => rfl
  | b :: r, i, k, h => by
    simp only [List.mem_cons, not_or] at h
    rw [ownWk, Own.put_ne _ _ _ h.1, ownWk_out own z r (i + 1) k h.2]
theorem ownWk_in (own : Own) (z : Nat) : ∀ (l : List Nat) (i j b : Nat), l.Nodup → l[j]? = some b → ownWk own z l i b = ⟨z, .thread (i + j)⟩
  | [], _, _, _, _, h => by simp at h
  | c :: r, i, 0, b, hn, h => by simp at h; subst h; rw [ownWk, Own.put_same]; rfl
  | c :: r, i, j + 1, b, hn, h => by
    simp only [List.getElem?_cons_succ] at h
    rw [List.nodup_cons] at hn
    have hne : b ≠ c := by rintro rfl; exact hn.1 (List.mem_of_getElem? h)
    rw [ownWk, Own.put_ne _ _ _ hne, ownWk_in own z r (i + 1) j b hn.2 h]
    congr 2; omega
def blankWk (b : Nat) : WLay := ⟨b, .slice none 0 0, .slice none 0 0, .slice none 0 0, .slice none 0 0, .slice none 0 0, .slice none 0 0⟩

/-- A store that has just been made, with owners for its blocks. -/
theorem ZAt.ofNew {own : Own} {z : Nat} {w w' : World} {L : XLay} {k t n e l : Int} (h : XAt w' L (freshX k t n e l)) (hnew : ∀ b, L.own b → w.heap.size ≤ b) (ht8 : t ≤ 8) :
    ∃ own' L', ZAt own' z w' L' (freshP k t n e l) ∧ Ext own own' w ∧ L'.s = L.s := by
  have n1 : L.s ≠ L.l.m := h.hd.ne h.mem.hd (by decide)
  have n2 : L.l.nb ≠ L.s := by have := h.hd.ne_row h.mem.nodes (by decide); simpa [Value.ownBlock] using this
  have n3 : L.l.eb ≠ L.s := by have := h.hd.ne_row h.mem.ents (by decide); simpa [Value.ownBlock] using this
  have n4 : L.tb ≠ L.s := by have := h.hd.ne_row h.thr (by decide); simpa [Value.ownBlock] using this
  have n5 : L.l.nb ≠ L.l.m := by have := h.mem.hd.ne_row h.mem.nodes (by decide); simpa [Value.ownBlock] using this
  have n6 : L.l.eb ≠ L.l.m := by have := h.mem.hd.ne_row h.mem.ents (by decide); simpa [Value.ownBlock] using this
  have n7 : L.tb ≠ L.l.m := by have := h.mem.hd.ne_row h.thr (by decide); simpa [Value.ownBlock] using this
  have n8 : L.l.nb ≠ L.l.eb := by have := ownsRow_ne h.mem.nodes h.mem.ents (by decide); simpa [Value.ownBlock] using this
  have n9 : L.tb ≠ L.l.nb := by have := ownsRow_ne h.thr h.mem.nodes (by decide); simpa [Value.ownBlock] using this
  have n10 : L.tb ≠ L.l.eb := by have := ownsRow_ne h.thr h.mem.ents (by decide); simpa [Value.ownBlock] using this
  have hlen : (freshX k t n e l).ts.length = t.toNat := by simp [freshX, freshTs_len]
  have hwt : ∀ (i : Nat) b, L.wks[i]? = some b → At w' b (VWorker.new i).cells 114 := by
    intro i b hb
    have hi : i < t.toNat := by
      have := (List.getElem?_eq_some_iff.1 hb).1
      rw [h.len, hlen] at this; exact this
    exact h.wk i b _ hb (by simp [freshX, freshTs, hi])
  have hwk : ∀ b, b ∈ L.wks → b ≠ L.s ∧ b ≠ L.l.m ∧ b ≠ L.l.nb ∧ b ≠ L.l.eb ∧ b ≠ L.tb := by
    intro b hb
    obtain ⟨i, hi⟩ := List.getElem?_of_mem hb
    have hA := hwt i b hi
    refine ⟨hA.ne h.hd (by decide), hA.ne h.mem.hd (by decide), ?_, ?_, ?_⟩
    · have := hA.ne_row h.mem.nodes (by decide); simp [Value.ownBlock] at this; exact fun e => this e.symm
    · have := hA.ne_row h.mem.ents (by decide); simp [Value.ownBlock] at this; exact fun e => this e.symm
    · have := hA.ne_row h.thr (by decide); simp [Value.ownBlock] at this; exact fun e => this e.symm
  let own' : Own := (((((ownWk own z L.wks 0).put L.tb z .thl).put L.l.eb z (.oth 2)).put L.l.nb z (.oth 1)).put L.l.m z (.oth 0)).put L.s z .store
  have o1 : own' L.s = ⟨z, .store⟩ := Own.put_same _ _ _ _
  have o2 : own' L.l.m = ⟨z, .oth 0⟩ := by show (Own.put _ _ _ _) _ = _; rw [Own.put_ne _ _ _ n1.symm, Own.put_same]
  have o3 : own' L.l.nb = ⟨z, .oth 1⟩ := by show (Own.put _ _ _ _) _ = _; rw [Own.put_ne _ _ _ n2, Own.put_ne _ _ _ n5, Own.put_same]
  have o4 : own' L.l.eb = ⟨z, .oth 2⟩ := by show (Own.put _ _ _ _) _ = _; rw [Own.put_ne _ _ _ n3, Own.put_ne _ _ _ n6, Own.put_ne _ _ _ n8.symm, Own.put_same]
  have o5 : own' L.tb = ⟨z, .thl⟩ := by show (Own.put _ _ _ _) _ = _; rw [Own.put_ne _ _ _ n4, Own.put_ne _ _ _ n7, Own.put_ne _ _ _ n9, Own.put_ne _ _ _ n10, Own.put_same]
  have o6 : ∀ (i : Nat) b, L.wks[i]? = some b → own' b = ⟨z, .thread i⟩ := by
    intro i b hb
    obtain ⟨h1, h2, h3, h4, h5⟩ := hwk b (List.mem_of_getElem? hb)
    show (Own.put _ _ _ _) _ = _
    rw [Own.put_ne _ _ _ h1, Own.put_ne _ _ _ h2, Own.put_ne _ _ _ h3, Own.put_ne _ _ _ h4, Own.put_ne _ _ _ h5, ownWk_in own z L.wks 0 i b h.apart hb, Nat.zero_add]
  have hE : Ext own own' w := by
    intro j hj
    have hno : ¬ L.own j := fun hh => by have := hnew j hh; omega
    simp only [XLay.own, not_or] at hno
    obtain ⟨h1, h2, h3, h4, h5, h6⟩ := hno
    show (Own.put _ _ _ _) _ = _
    rw [Own.put_ne _ _ _ h1, Own.put_ne _ _ _ h2, Own.put_ne _ _ _ h3, Own.put_ne _ _ _ h4, Own.put_ne _ _ _ h5, ownWk_out own z L.wks 0 j h6]
  have hpl : (freshP k t n e l).ts.length = t.toNat := by simp [freshP]
  refine ⟨own', ⟨L.s, L.l, .slice (some ⟨L.tb, 0, none⟩) t.toNat L.tcap, L.wks.map blankWk, .slice none 0 0⟩, ⟨?_, o1, h.mem, o2, o3, o4, ?_, ?_, ?_, Row.nil _ _ _ _ _ _, ?_⟩, hE, rfl⟩
  · have := h.hd
    rw [hlen] at this
    exact this
  · refine ⟨?_, ?_⟩
    · have := h.thr
      rw [hlen] at this
      rw [hpl]
      have e : wptrs (L.wks.map blankWk) = ptrs L.wks := by unfold wptrs ptrs; rw [List.map_map]; rfl
      rw [e]; exact this
    · intro j hj; simp [Value.ownBlock] at hj; subst hj; exact o5
  · rw [List.length_map, h.len, hlen, hpl]
  · intro i lw tw hl ht
    rw [List.getElem?_map] at hl
    cases hb : L.wks[i]? with
    | none => rw [hb] at hl; simp at hl
    | some b =>
      rw [hb] at hl; simp at hl; subst hl
      have htw : tw = PThread.zero := by
        have : tw ∈ List.replicate t.toNat PThread.zero := List.mem_of_getElem? ht
        exact (List.mem_replicate.1 this).2
      subst htw
      exact ⟨hwt i b hb, o6 i b hb, Row.nil _ _ _ _ _ _, Row.nil _ _ _ _ _ _, Row.nil _ _ _ _ _ _, Row.nil _ _ _ _ _ _, ListsAt.none _ _ _, ListsAt.none _ _ _⟩
  · rw [hpl]; omega
end Go.Proofs.YtfccelbmacjifaaGreat

