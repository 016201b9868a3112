/-
  No cell of these rows narrows 'for every input' (looked for: loops, veiled, ifaces, maps, wideKeys, modest, calm, conditions, laid).
  DERIVED. THE GIVEN ROWS OF THIS SEAT. 6 by the template 'for every input the law returns true; each argument reads behind the call as it read before'; 0 by the template 'total and deterministic' (their statements: YtfccelbmacjifabGreatTotals.lean).
  GIVEN WITH THE SEED: the statements are not yours to turn. If you find one false, say at which input.
  Laid BY PROGRAM, IN A SANDBOX (cutbox-rows.mjs): the forced cells as the released guide's own fill.sh prints them over the translation 32d5e29cd2240368… (all of the seat's roots in one cut). By AI agents, Wed Nov 11 2026. No macro, syntax, notation, axiom, sorry.
-/
import Derived.Test.YtfccelbmacjifabGreatChecked
import GoSem.Claim
import GoSem.ClaimJoined
import GoSem.ClaimMapViews
import Derived.JoinedTies
import Derived.KernelRfl
namespace Go.Proofs.YtfccelbmacjifabGreat
/- THE CELL 'sum', in the pinned program and in every row, IS THE sha256 OF THE DUMP (.gsa) THAT YtfccelbmacjifabGreatProg.lean LOADS. Nothing in Lean hashes anything: it is a label: what it is worth is what the hold of that sum in a sandbox is worth. -/
noncomputable def Tryz.pinned : Pinned := { name := "ytfccelbmacjifabgreat", sum := "32d5e29cd2240368a6437fd176540bc1096d0ccd33e4614ec5fba2bc75a88b1a", checked := Tryz.checked }
namespace Rows
def none {H : Type} : Left H := { results := [], args := [] }

/-- 'bundlelaw.Quiet': WHATEVER THE INPUT: true; the input reads as it did. -/
def quietSpec : ChangeSpec := { name := "quiet", fn := fun _ => fun
  | [d1, d2] => { results := [.lit (.bool true)], args := [d1, d2] }
  | _ => none }
def quietRow : OpenClaim := { program := "ytfccelbmacjifabgreat", sum := "32d5e29cd2240368a6437fd176540bc1096d0ccd33e4614ec5fba2bc75a88b1a", func := "bundle/bundlelaw.Quiet", spec := "quiet", apart := false }
def QuietSaid : Prop := quietRow.holds Tryz.pinned (OpenSpec.ofChange quietSpec)

/-- ITS FALSE NEIGHBOUR: 'it returns false'. Refute it at one input. -/
def quietWrong : ChangeSpec := { name := "quiet", fn := fun _ => fun
  | [d1, d2] => { results := [.lit (.bool false)], args := [d1, d2] }
  | _ => none }
def QuietWrongFalsely : Prop := quietRow.holds Tryz.pinned (OpenSpec.ofChange quietWrong)

/-- 'bundlelaw.TreeAlone': WHATEVER THE INPUT: true; the input reads as it did. -/
def treeAloneSpec : ChangeSpec := { name := "treeAlone", fn := fun _ => fun
  | [d1, d2] => { results := [.lit (.bool true)], args := [d1, d2] }
  | _ => none }
def treeAloneRow : OpenClaim := { program := "ytfccelbmacjifabgreat", sum := "32d5e29cd2240368a6437fd176540bc1096d0ccd33e4614ec5fba2bc75a88b1a", func := "bundle/bundlelaw.TreeAlone", spec := "treeAlone", apart := false }
def TreeAloneSaid : Prop := treeAloneRow.holds Tryz.pinned (OpenSpec.ofChange treeAloneSpec)

/-- ITS FALSE NEIGHBOUR: 'it returns false'. Refute it at one input. -/
def treeAloneWrong : ChangeSpec := { name := "treeAlone", fn := fun _ => fun
  | [d1, d2] => { results := [.lit (.bool false)], args := [d1, d2] }
  | _ => none }
def TreeAloneWrongFalsely : Prop := treeAloneRow.holds Tryz.pinned (OpenSpec.ofChange treeAloneWrong)

/-- 'bundlelaw.TreeEnds': WHATEVER THE INPUT: true; the input reads as it did. -/
def treeEndsSpec : ChangeSpec := { name := "treeEnds", fn := fun _ => fun
  | [d1, d2] => { results := [.lit (.bool true)], args := [d1, d2] }
  | _ => none }
def treeEndsRow : OpenClaim := { program := "ytfccelbmacjifabgreat", sum := "32d5e29cd2240368a6437fd176540bc1096d0ccd33e4614ec5fba2bc75a88b1a", func := "bundle/bundlelaw.TreeEnds", spec := "treeEnds", apart := false }
def TreeEndsSaid : Prop := treeEndsRow.holds Tryz.pinned (OpenSpec.ofChange treeEndsSpec)

/-- ITS FALSE NEIGHBOUR: 'it returns false'. Refute it at one input. -/
def treeEndsWrong : ChangeSpec := { name := "treeEnds", fn := fun _ => fun
  | [d1, d2] => { results := [.lit (.bool false)], args := [d1, d2] }
  | _ => none }
def TreeEndsWrongFalsely : Prop := treeEndsRow.holds Tryz.pinned (OpenSpec.ofChange treeEndsWrong)

/-- 'bundlelaw.TreeOrdered': WHATEVER THE INPUT: true; the input reads as it did. -/
def treeOrderedSpec : ChangeSpec := { name := "treeOrdered", fn := fun _ => fun
  | [d1, d2] => { results := [.lit (.bool true)], args := [d1, d2] }
  | _ => none }
def treeOrderedRow : OpenClaim := { program := "ytfccelbmacjifabgreat", sum := "32d5e29cd2240368a6437fd176540bc1096d0ccd33e4614ec5fba2bc75a88b1a", func := "bundle/bundlelaw.TreeOrdered", spec := "treeOrdered", apart := false }
def TreeOrderedSaid : Prop := treeOrderedRow.holds Tryz.pinned (OpenSpec.ofChange treeOrderedSpec)

/-- ITS FALSE NEIGHBOUR: 'it returns false'. Refute it at one input. -/
def treeOrderedWrong : ChangeSpec := { name := "treeOrdered", fn := fun _ => fun
  | [d1, d2] => { results := [.lit (.bool false)], args := [d1, d2] }
  | _ => none }
def TreeOrderedWrongFalsely : Prop := treeOrderedRow.holds Tryz.pinned (OpenSpec.ofChange treeOrderedWrong)

/-- 'bundlelaw.TreeFrozen': WHATEVER THE INPUT: true; the input reads as it did. -/
def treeFrozenSpec : ChangeSpec := { name := "treeFrozen", fn := fun _ => fun
  | [d1, d2, d3, d4] => { results := [.lit (.bool true)], args := [d1, d2, d3, d4] }
  | _ => none }
def treeFrozenRow : OpenClaim := { program := "ytfccelbmacjifabgreat", sum := "32d5e29cd2240368a6437fd176540bc1096d0ccd33e4614ec5fba2bc75a88b1a", func := "bundle/bundlelaw.TreeFrozen", spec := "treeFrozen", apart := false }
def TreeFrozenSaid : Prop := treeFrozenRow.holds Tryz.pinned (OpenSpec.ofChange treeFrozenSpec)

/-- ITS FALSE NEIGHBOUR: 'it returns false'. Refute it at one input. -/
def treeFrozenWrong : ChangeSpec := { name := "treeFrozen", fn := fun _ => fun
  | [d1, d2, d3, d4] => { results := [.lit (.bool false)], args := [d1, d2, d3, d4] }
  | _ => none }
def TreeFrozenWrongFalsely : Prop := treeFrozenRow.holds Tryz.pinned (OpenSpec.ofChange treeFrozenWrong)

/-- 'bundlelaw.TreeCleared': WHATEVER THE INPUT: true; the input reads as it did. -/
def treeClearedSpec : ChangeSpec := { name := "treeCleared", fn := fun _ => fun
  | [d1, d2] => { results := [.lit (.bool true)], args := [d1, d2] }
  | _ => none }
def treeClearedRow : OpenClaim := { program := "ytfccelbmacjifabgreat", sum := "32d5e29cd2240368a6437fd176540bc1096d0ccd33e4614ec5fba2bc75a88b1a", func := "bundle/bundlelaw.TreeCleared", spec := "treeCleared", apart := false }
def TreeClearedSaid : Prop := treeClearedRow.holds Tryz.pinned (OpenSpec.ofChange treeClearedSpec)

/-- ITS FALSE NEIGHBOUR: 'it returns false'. Refute it at one input. -/
def treeClearedWrong : ChangeSpec := { name := "treeCleared", fn := fun _ => fun
  | [d1, d2] => { results := [.lit (.bool false)], args := [d1, d2] }
  | _ => none }
def TreeClearedWrongFalsely : Prop := treeClearedRow.holds Tryz.pinned (OpenSpec.ofChange treeClearedWrong)

/- THE SECOND FORM. 'bulk': how many values and letters a reading holds, each counted each time it is reached (what is shared counts as often as it is met; a slice's spare places count too). A statement '..UptoSaid' is the law's where the arguments, and the package variables that the reading takes, are together of bulk at most 1048576: NARROWER than '..Said'. Prove '..Said' where nothing that the law and all that it calls make is longer than what came in: it says more and counts as full. Else prove '..UptoSaid'. A law counts once. -/
mutual
def uptoBulk {H : Type} : DataW H → Nat
  | .lit (.string bytes) => bytes.length + 1
  | .lit _ => 1
  | .nil => 1
  | .ptr d => uptoBulk d + 1
  | .slice elems spare => uptoBulkAll elems + uptoBulkAll spare + 1
  | .agg parts => uptoBulkAll parts + 1
  | .iface _ d => uptoBulk d + 1
  | .map entries => uptoBulkEntries entries + 1
  | .held _ => 1
def uptoBulkAll {H : Type} : List (DataW H) → Nat
  | [] => 0
  | d :: r => uptoBulk d + uptoBulkAll r
def uptoBulkEntries {H : Type} : List (Lit × DataW H) → Nat
  | [] => 0
  | x :: r => uptoBulkEntry x + uptoBulkEntries r
def uptoBulkEntry {H : Type} : Lit × DataW H → Nat
  | (.string bytes, d) => bytes.length + uptoBulk d + 1
  | (_, d) => uptoBulk d + 1
 end
def uptoSmall : (H : Type) → List (DataW H) → Bool := fun _ ds => decide (uptoBulkAll ds ≤ 1048576)
def OpenSpec.upto (s : _root_.Go.ChangeSpec) : _root_.Go.OpenSpec := { _root_.Go.OpenSpec.ofChange s with cond := some uptoSmall }

/-- 'bundlelaw.Quiet', WHERE WHAT IT READS IS OF BULK AT MOST 1048576: true; the input reads as it did. -/
def quietUptoRow : OpenClaim := { program := "ytfccelbmacjifabgreat", sum := "32d5e29cd2240368a6437fd176540bc1096d0ccd33e4614ec5fba2bc75a88b1a", func := "bundle/bundlelaw.Quiet", spec := "quiet", apart := false, narrowed := true }
def QuietUptoSaid : Prop := quietUptoRow.holds Tryz.pinned (OpenSpec.upto quietSpec)

/-- 'bundlelaw.TreeAlone', WHERE WHAT IT READS IS OF BULK AT MOST 1048576: true; the input reads as it did. -/
def treeAloneUptoRow : OpenClaim := { program := "ytfccelbmacjifabgreat", sum := "32d5e29cd2240368a6437fd176540bc1096d0ccd33e4614ec5fba2bc75a88b1a", func := "bundle/bundlelaw.TreeAlone", spec := "treeAlone", apart := false, narrowed := true }
def TreeAloneUptoSaid : Prop := treeAloneUptoRow.holds Tryz.pinned (OpenSpec.upto treeAloneSpec)

/-- 'bundlelaw.TreeEnds', WHERE WHAT IT READS IS OF BULK AT MOST 1048576: true; the input reads as it did. -/
def treeEndsUptoRow : OpenClaim := { program := "ytfccelbmacjifabgreat", sum := "32d5e29cd2240368a6437fd176540bc1096d0ccd33e4614ec5fba2bc75a88b1a", func := "bundle/bundlelaw.TreeEnds", spec := "treeEnds", apart := false, narrowed := true }
def TreeEndsUptoSaid : Prop := treeEndsUptoRow.holds Tryz.pinned (OpenSpec.upto treeEndsSpec)

/-- 'bundlelaw.TreeOrdered', WHERE WHAT IT READS IS OF BULK AT MOST 1048576: true; the input reads as it did. -/
def treeOrderedUptoRow : OpenClaim := { program := "ytfccelbmacjifabgreat", sum := "32d5e29cd2240368a6437fd176540bc1096d0ccd33e4614ec5fba2bc75a88b1a", func := "bundle/bundlelaw.TreeOrdered", spec := "treeOrdered", apart := false, narrowed := true }
def TreeOrderedUptoSaid : Prop := treeOrderedUptoRow.holds Tryz.pinned (OpenSpec.upto treeOrderedSpec)

/-- 'bundlelaw.TreeFrozen', WHERE WHAT IT READS IS OF BULK AT MOST 1048576: true; the input reads as it did. -/
def treeFrozenUptoRow : OpenClaim := { program := "ytfccelbmacjifabgreat", sum := "32d5e29cd2240368a6437fd176540bc1096d0ccd33e4614ec5fba2bc75a88b1a", func := "bundle/bundlelaw.TreeFrozen", spec := "treeFrozen", apart := false, narrowed := true }
def TreeFrozenUptoSaid : Prop := treeFrozenUptoRow.holds Tryz.pinned (OpenSpec.upto treeFrozenSpec)

/-- 'bundlelaw.TreeCleared', WHERE WHAT IT READS IS OF BULK AT MOST 1048576: true; the input reads as it did. -/
def treeClearedUptoRow : OpenClaim := { program := "ytfccelbmacjifabgreat", sum := "32d5e29cd2240368a6437fd176540bc1096d0ccd33e4614ec5fba2bc75a88b1a", func := "bundle/bundlelaw.TreeCleared", spec := "treeCleared", apart := false, narrowed := true }
def TreeClearedUptoSaid : Prop := treeClearedUptoRow.holds Tryz.pinned (OpenSpec.upto treeClearedSpec)

end Rows
end Go.Proofs.YtfccelbmacjifabGreat
