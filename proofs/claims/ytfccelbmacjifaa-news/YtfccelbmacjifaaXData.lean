import Derived.Test.YtfccelbmacjifaaMemNew
namespace Go.Proofs.Ytfccelbmacjifaa
open Go.RowKit

/-- An answer that holds no lists. -/
structure VAns where
  err : Int
  did : Bool
  value : Int
  stamp : Int
def VAns.cells (a : VAns) : List Value := [.int .i64 a.err, .bool a.did, .int .i64 a.value, .int .i64 a.stamp, .slice none 0 0]
def VAns.zero : VAns := ⟨0, false, 0, 0⟩

structure VWork where
  kind : Int
  key : Int
  value : Int
  spans : Value
  next : Int
  time : Int
  stand : Int
  ahead : Int
  above : Int
  locks : Int
  made : Value
  tsrc : Int
  tside : Int
  links : Value
  noted : Value
  ans : VAns
  aspans : Value
def VWork.zero : VWork := ⟨0, 0, 0, .slice none 0 0, 0, 0, 0, 0, 0, 0, .slice none 0 0, 0, 0, .slice none 0 0, .slice none 0 0, VAns.zero, .slice none 0 0⟩

structure VWorker where
  number : Int
  slot : Int
  busy : Bool
  work : VWork
  hasEnded : Bool
  last : VAns
  lspans : Value
def VWorker.cells (t : VWorker) : List Value :=
  [.int .i64 t.number, .int .i64 t.slot, .bool t.busy,
   .int .i64 t.work.kind, .int .i64 t.work.key, .int .i64 t.work.value, t.work.spans, .int .i64 t.work.next, .int .i64 t.work.time, .int .i64 t.work.stand, .int .i64 t.work.ahead, .int .i64 t.work.above, .int .i64 t.work.locks, t.work.made, .int .i64 t.work.tsrc, .int .i64 t.work.tside, t.work.links, t.work.noted,
   .int .i64 t.work.ans.err, .bool t.work.ans.did, .int .i64 t.work.ans.value, .int .i64 t.work.ans.stamp, t.work.aspans,
   .bool t.hasEnded, .int .i64 t.last.err, .bool t.last.did, .int .i64 t.last.value, .int .i64 t.last.stamp, t.lspans]
def VWorker.new (n : Int) : VWorker := ⟨n, 0, false, VWork.zero, false, VAns.zero, .slice none 0 0⟩

structure VSweep where
  made : Int
  clock : Int
  retired : Value
  hasTime : Bool
  time : Int
def VSweep.zero : VSweep := ⟨0, 0, .slice none 0 0, false, 0⟩

/-- Where a store lies. -/
structure XLay where
  s : Nat
  l : MLay
  tb : Nat
  tcap : Nat
  wks : List Nat
/-- What a store holds. -/
structure XSt where
  kind : Int
  limit : Int
  clock : Int
  mem : PMem
  ts : List VWorker
  sweep : VSweep
def ptrs (l : List Nat) : List Value := l.map fun b => .pointer (some ⟨b, 0, none⟩)
structure XAt (w : World) (L : XLay) (X : XSt) : Prop where
  hd : At w L.s [.int .i64 X.kind, .int .i64 X.limit, .int .i64 X.clock, .pointer (some ⟨L.l.m, 0, none⟩), .slice (some ⟨L.tb, 0, none⟩) X.ts.length L.tcap,
    .int .i64 X.sweep.made, .int .i64 X.sweep.clock, X.sweep.retired, .bool X.sweep.hasTime, .int .i64 X.sweep.time] 48
  mem : MAt w L.l X.mem
  thr : w.ownsRow 0 50 1 (.slice (some ⟨L.tb, 0, none⟩) X.ts.length L.tcap) X.ts.length (ptrs L.wks)
  len : L.wks.length = X.ts.length
  wk : ∀ (i b : Nat) (t : VWorker), L.wks[i]? = some b → X.ts[i]? = some t → At w b t.cells 62
  few : X.ts.length ≤ 8
  apart : L.wks.Nodup
/-- The blocks of a store. -/
def XLay.own (L : XLay) (k : Nat) : Prop := k = L.s ∨ k = L.l.m ∨ k = L.l.nb ∨ k = L.l.eb ∨ k = L.tb ∨ k ∈ L.wks

section
variable {w w' : World} {L : XLay} {X : XSt}
theorem XAt.fr {S : Nat → Prop} (h : XAt w L X) (hf : Fr S w w') (hS : ∀ k, L.own k → ¬ S k) : XAt w' L X := by
  refine ⟨hf.at h.hd (hS _ (.inl rfl)), MAt.same h.mem hf (hS _ (.inr (.inl rfl))) (hS _ (.inr (.inr (.inl rfl)))) (hS _ (.inr (.inr (.inr (.inl rfl))))), hf.owns h.thr ?_, h.len, ?_, h.few, h.apart⟩
  · intro k hk; simp [Value.ownBlock] at hk; subst hk; exact hS _ (.inr (.inr (.inr (.inr (.inl rfl)))))
  · intro i b t hb ht
    exact hf.at (h.wk i b t hb ht) (hS _ (.inr (.inr (.inr (.inr (.inr (List.mem_of_getElem? hb)))))))
theorem ptrs_get {l : List Nat} {i b : Nat} (h : l[i]? = some b) : (ptrs l)[i]? = some (.pointer (some ⟨b, 0, none⟩)) := by simp [ptrs, h]
theorem XAt.thread (h : XAt w L X) {i : Nat} {t : VWorker} (ht : X.ts[i]? = some t) : ∃ b, L.wks[i]? = some b ∧ w.cell? ⟨L.tb, i, none⟩ = some (.pointer (some ⟨b, 0, none⟩)) ∧ At w b t.cells 62 := by
  have hi : i < L.wks.length := by rw [h.len]; exact (List.getElem?_eq_some_iff.1 ht).1
  have hb := List.getElem?_eq_getElem hi
  exact ⟨L.wks[i], hb, ownsRow_cell h.thr (ptrs_get hb), h.wk i _ t hb ht⟩
end
end Go.Proofs.Ytfccelbmacjifaa
