import Derived.Test.YtfccelbmacjifaaRRoom
import Derived.WalkLawsBesides
namespace Go.Proofs.Ytfccelbmacjifaa
open Go.RowKit

def pv (b : Nat) : Value := .pointer (some ⟨b, 0, none⟩)
/-- The cells of a World. -/
def worldCells (x y : Nat) (k t n e l : Int) (o p g : Sl) : List Value :=
  [.pointer (some ⟨x, 0, none⟩), .pointer (some ⟨y, 0, none⟩), .int .i64 k, .int .i64 t, .int .i64 n, .int .i64 e, .int .i64 l, .slice o.a o.n o.c, .slice p.a p.n p.c, .slice g.a g.n g.c]

theorem run_slice_nil_nil {P : Program} (w : World) {t e : TypeId} (ht : P.underlying t = some (.slice e)) : (binOp .eql t (.slice none 0 0) (.slice none 0 0)).run P w = .ok (.bool true) w := by
  simpa using Go.Lib.run_eql_slice_nil (P := P) w t e none 0 0 0 0 ht

set_option maxHeartbeats 1000000 in
set_option maxRecDepth 100000 in
theorem sameAnswers_nil (a : VAns) (w : World) :
    Calls Try.prog 18 #[.agg a.cells.toArray, .agg a.cells.toArray] w fun e w' => e = .returned (.bool true) ∧ Fr (fun _ => False) w w' := by
  obtain ⟨er, di, va, st⟩ := a
  simp only [VAns.cells]
  have h1 : (er != er) = false := by simp
  have h2 : (di != di) = false := by simp
  have h3 : (va != va) = false := by simp
  have h4 : (st != st) = false := by simp
  have h5 : ∀ w', (binOp .eql 56 (.slice none 0 0) (.slice none 0 0)).run Try.prog w' = .ok (.bool true) w' := fun w' => run_slice_nil_nil w' Try.underlying56
  go_enter Try.func18, Try.ntmps18
  go_wp2_with fail
  refine wp_loop_rounds 1 ?_
  rw [rounds_succ]
  go_wp2
  go_ret
  exact ⟨rfl, ((Fr.refl _ _).alloc _).alloc _⟩

section
variable {w : World} {wb x y : Nat} {k t n e l : Int} {o p g : Sl}

set_option maxHeartbeats 1000000 in
theorem answers_nil (hW : At w wb (worldCells x y k t n e l o p g) 40) (a : VAns) (er : Int) (i : Int)
    (hx : ∀ w', Fr (fun _ => False) w w' → Calls Try.prog 16 #[.pointer (some ⟨x, 0, none⟩), .int .i64 i] w' fun r w'' => r = .returned (ans2 a.cells er) ∧ Fr (fun _ => False) w' w'')
    (hy : ∀ w', Fr (fun _ => False) w w' → Calls Try.prog 17 #[.pointer (some ⟨y, 0, none⟩), .int .i64 i] w' fun r w'' => r = .returned (ans2 a.cells er) ∧ Fr (fun _ => False) w' w'') :
    Calls Try.prog 8 #[.pointer (some ⟨wb, 0, none⟩), .int .i64 i] w fun r w' => r = .returned (.bool true) ∧ Fr (fun _ => False) w w' := by
  have hc := hW.cell
  simp only [worldCells] at hc
  have hl := hW.lt
  have HX := (show Hid (∀ w', Fr (fun _ => False) w w' → _) from hx)
  have HY := (show Hid (∀ w', Fr (fun _ => False) w w' → _) from hy)
  have HW := (show Hid (At w wb _ _) from hW)
  have hne : (er != er) = false := by simp
  clear hx hy hW
  go_enter Try.func8, Try.ntmps8
  go_wp2_with fail
  refine (HX.out w (Fr.refl _ _)).mono ?_
  rintro r w1 ⟨rfl, hF1⟩
  have hW1 : Hid (At w1 wb _ _) := hF1.at HW.out (fun h => h)
  have hc1 := hW1.out.cell
  have hl1 := hW1.out.lt
  simp only [worldCells] at hc1
  have HF1 := (show Hid (Fr _ _ _) from hF1)
  clear hF1 hc hl
  simp only [ans2, VAns.cells]
  go_wp2_with fail
  refine (HY.out _ (HF1.out.alloc _)).mono ?_
  rintro r w2 ⟨rfl, hF2⟩
  have HA2 := (show Hid (At w2 w1.heap.size a.cells 58) from hF2.at (At.new w1 a.cells 58) (fun h => h))
  have hA2 := HA2.out.cell
  have hl2 := (hF2.at (At.new w1 a.cells 58) (fun h => h)).lt
  have HF2 := (show Hid (Fr _ _ _) from (HF1.out.alloc _).trans hF2)
  clear hF2 hc1 hl1 HX HY HW hW1
  simp only [ans2, VAns.cells] at hA2 ⊢
  go_wp2_with fail
  refine (sameAnswers_nil a _).mono ?_
  rintro r w3 ⟨rfl, hF3⟩
  have hA3 := (hF3.at ((At.newAt (c := a.cells) rfl 58) : At _ w2.heap.size _ _) (fun h => h))
  have HF3 := (show Hid (Fr _ _ _) from (HF2.out.alloc _).trans hF3)
  have hA1 := (hF3.at (HA2.out.alloc _) (fun h => h)).cell
  have hA2 := hA3.cell
  simp only [VAns.cells] at hA1 hA2
  clear hF3 hA3 HF2 HF1 HA2
  go_wp2
  go_ret
  exact ⟨rfl, HF3.out⟩
end
end Go.Proofs.Ytfccelbmacjifaa
