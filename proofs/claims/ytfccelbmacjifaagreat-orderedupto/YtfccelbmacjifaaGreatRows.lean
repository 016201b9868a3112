/-
  No cell of these rows narrows 'for every input' (looked for: loops, veiled, ifaces, maps, wideKeys, modest, calm, conditions, laid).
  DERIVED. THE GIVEN ROWS OF THIS SEAT. 11 by the template 'for every input the law returns true; each argument reads behind the call as it read before'; 0 by the template 'total and deterministic' (their statements: YtfccelbmacjifaaGreatTotals.lean).
  GIVEN WITH THE SEED: the statements are not yours to turn. If you find one false, say at which input.
  Laid BY PROGRAM, IN A SANDBOX (cutbox-rows.mjs): the forced cells as the released guide's own fill.sh prints them over the translation 4a0ded6503abba1f… (all of the seat's roots in one cut). By AI agents, Wed Nov 11 2026. No macro, syntax, notation, axiom, sorry.
-/
import Derived.Test.YtfccelbmacjifaaGreatChecked
import GoSem.Claim
import GoSem.ClaimJoined
import GoSem.ClaimMapViews
import Derived.JoinedTies
import Derived.KernelRfl
namespace Go.Proofs.YtfccelbmacjifaaGreat
/- THE CELL 'sum', in the pinned program and in every row, IS THE sha256 OF THE DUMP (.gsa) THAT YtfccelbmacjifaaGreatProg.lean LOADS. Nothing in Lean hashes anything: it is a label: what it is worth is what the hold of that sum in a sandbox is worth. -/
noncomputable def Tryz.pinned : Pinned := { name := "ytfccelbmacjifaagreat", sum := "4a0ded6503abba1fbbe2a21235432cd74e58272c760c74c1380343876efbff9f", checked := Tryz.checked }
namespace Rows
def none {H : Type} : Left H := { results := [], args := [] }

/-- 'bundlelaw.Updates': WHATEVER THE INPUT: true; the input reads as it did. -/
def updatesSpec : ChangeSpec := { name := "updates", fn := fun _ => fun
  | [d1, d2] => { results := [.lit (.bool true)], args := [d1, d2] }
  | _ => none }
def updatesRow : OpenClaim := { program := "ytfccelbmacjifaagreat", sum := "4a0ded6503abba1fbbe2a21235432cd74e58272c760c74c1380343876efbff9f", func := "bundle/bundlelaw.Updates", spec := "updates", apart := false }
def UpdatesSaid : Prop := updatesRow.holds Tryz.pinned (OpenSpec.ofChange updatesSpec)

/-- ITS FALSE NEIGHBOUR: 'it returns false'. Refute it at one input. -/
def updatesWrong : ChangeSpec := { name := "updates", fn := fun _ => fun
  | [d1, d2] => { results := [.lit (.bool false)], args := [d1, d2] }
  | _ => none }
def UpdatesWrongFalsely : Prop := updatesRow.holds Tryz.pinned (OpenSpec.ofChange updatesWrong)

/-- 'bundlelaw.Reads': WHATEVER THE INPUT: true; the input reads as it did. -/
def readsSpec : ChangeSpec := { name := "reads", fn := fun _ => fun
  | [d1, d2] => { results := [.lit (.bool true)], args := [d1, d2] }
  | _ => none }
def readsRow : OpenClaim := { program := "ytfccelbmacjifaagreat", sum := "4a0ded6503abba1fbbe2a21235432cd74e58272c760c74c1380343876efbff9f", func := "bundle/bundlelaw.Reads", spec := "reads", apart := false }
def ReadsSaid : Prop := readsRow.holds Tryz.pinned (OpenSpec.ofChange readsSpec)

/-- ITS FALSE NEIGHBOUR: 'it returns false'. Refute it at one input. -/
def readsWrong : ChangeSpec := { name := "reads", fn := fun _ => fun
  | [d1, d2] => { results := [.lit (.bool false)], args := [d1, d2] }
  | _ => none }
def ReadsWrongFalsely : Prop := readsRow.holds Tryz.pinned (OpenSpec.ofChange readsWrong)

/-- 'bundlelaw.Sweeps': WHATEVER THE INPUT: true; the input reads as it did. -/
def sweepsSpec : ChangeSpec := { name := "sweeps", fn := fun _ => fun
  | [d1, d2] => { results := [.lit (.bool true)], args := [d1, d2] }
  | _ => none }
def sweepsRow : OpenClaim := { program := "ytfccelbmacjifaagreat", sum := "4a0ded6503abba1fbbe2a21235432cd74e58272c760c74c1380343876efbff9f", func := "bundle/bundlelaw.Sweeps", spec := "sweeps", apart := false }
def SweepsSaid : Prop := sweepsRow.holds Tryz.pinned (OpenSpec.ofChange sweepsSpec)

/-- ITS FALSE NEIGHBOUR: 'it returns false'. Refute it at one input. -/
def sweepsWrong : ChangeSpec := { name := "sweeps", fn := fun _ => fun
  | [d1, d2] => { results := [.lit (.bool false)], args := [d1, d2] }
  | _ => none }
def SweepsWrongFalsely : Prop := sweepsRow.holds Tryz.pinned (OpenSpec.ofChange sweepsWrong)

/-- 'bundlelaw.Trees': WHATEVER THE INPUT: true; the input reads as it did. -/
def treesSpec : ChangeSpec := { name := "trees", fn := fun _ => fun
  | [d1, d2] => { results := [.lit (.bool true)], args := [d1, d2] }
  | _ => none }
def treesRow : OpenClaim := { program := "ytfccelbmacjifaagreat", sum := "4a0ded6503abba1fbbe2a21235432cd74e58272c760c74c1380343876efbff9f", func := "bundle/bundlelaw.Trees", spec := "trees", apart := false }
def TreesSaid : Prop := treesRow.holds Tryz.pinned (OpenSpec.ofChange treesSpec)

/-- ITS FALSE NEIGHBOUR: 'it returns false'. Refute it at one input. -/
def treesWrong : ChangeSpec := { name := "trees", fn := fun _ => fun
  | [d1, d2] => { results := [.lit (.bool false)], args := [d1, d2] }
  | _ => none }
def TreesWrongFalsely : Prop := treesRow.holds Tryz.pinned (OpenSpec.ofChange treesWrong)

/-- 'bundlelaw.All': WHATEVER THE INPUT: true; the input reads as it did. -/
def allSpec : ChangeSpec := { name := "all", fn := fun _ => fun
  | [d1, d2] => { results := [.lit (.bool true)], args := [d1, d2] }
  | _ => none }
def allRow : OpenClaim := { program := "ytfccelbmacjifaagreat", sum := "4a0ded6503abba1fbbe2a21235432cd74e58272c760c74c1380343876efbff9f", func := "bundle/bundlelaw.All", spec := "all", apart := false }
def AllSaid : Prop := allRow.holds Tryz.pinned (OpenSpec.ofChange allSpec)

/-- ITS FALSE NEIGHBOUR: 'it returns false'. Refute it at one input. -/
def allWrong : ChangeSpec := { name := "all", fn := fun _ => fun
  | [d1, d2] => { results := [.lit (.bool false)], args := [d1, d2] }
  | _ => none }
def AllWrongFalsely : Prop := allRow.holds Tryz.pinned (OpenSpec.ofChange allWrong)

/-- 'bundlelaw.Apart': WHATEVER THE INPUT: true; the input reads as it did. -/
def apartSpec : ChangeSpec := { name := "apart", fn := fun _ => fun
  | [d1, d2, d3, d4] => { results := [.lit (.bool true)], args := [d1, d2, d3, d4] }
  | _ => none }
def apartRow : OpenClaim := { program := "ytfccelbmacjifaagreat", sum := "4a0ded6503abba1fbbe2a21235432cd74e58272c760c74c1380343876efbff9f", func := "bundle/bundlelaw.Apart", spec := "apart", apart := false }
def ApartSaid : Prop := apartRow.holds Tryz.pinned (OpenSpec.ofChange apartSpec)

/-- ITS FALSE NEIGHBOUR: 'it returns false'. Refute it at one input. -/
def apartWrong : ChangeSpec := { name := "apart", fn := fun _ => fun
  | [d1, d2, d3, d4] => { results := [.lit (.bool false)], args := [d1, d2, d3, d4] }
  | _ => none }
def ApartWrongFalsely : Prop := apartRow.holds Tryz.pinned (OpenSpec.ofChange apartWrong)

/-- 'bundlelaw.Alone': WHATEVER THE INPUT: true; the input reads as it did. -/
def aloneSpec : ChangeSpec := { name := "alone", fn := fun _ => fun
  | [d1, d2] => { results := [.lit (.bool true)], args := [d1, d2] }
  | _ => none }
def aloneRow : OpenClaim := { program := "ytfccelbmacjifaagreat", sum := "4a0ded6503abba1fbbe2a21235432cd74e58272c760c74c1380343876efbff9f", func := "bundle/bundlelaw.Alone", spec := "alone", apart := false }
def AloneSaid : Prop := aloneRow.holds Tryz.pinned (OpenSpec.ofChange aloneSpec)

/-- ITS FALSE NEIGHBOUR: 'it returns false'. Refute it at one input. -/
def aloneWrong : ChangeSpec := { name := "alone", fn := fun _ => fun
  | [d1, d2] => { results := [.lit (.bool false)], args := [d1, d2] }
  | _ => none }
def AloneWrongFalsely : Prop := aloneRow.holds Tryz.pinned (OpenSpec.ofChange aloneWrong)

/-- 'bundlelaw.Ends': WHATEVER THE INPUT: true; the input reads as it did. -/
def endsSpec : ChangeSpec := { name := "ends", fn := fun _ => fun
  | [d1, d2] => { results := [.lit (.bool true)], args := [d1, d2] }
  | _ => none }
def endsRow : OpenClaim := { program := "ytfccelbmacjifaagreat", sum := "4a0ded6503abba1fbbe2a21235432cd74e58272c760c74c1380343876efbff9f", func := "bundle/bundlelaw.Ends", spec := "ends", apart := false }
def EndsSaid : Prop := endsRow.holds Tryz.pinned (OpenSpec.ofChange endsSpec)

/-- ITS FALSE NEIGHBOUR: 'it returns false'. Refute it at one input. -/
def endsWrong : ChangeSpec := { name := "ends", fn := fun _ => fun
  | [d1, d2] => { results := [.lit (.bool false)], args := [d1, d2] }
  | _ => none }
def EndsWrongFalsely : Prop := endsRow.holds Tryz.pinned (OpenSpec.ofChange endsWrong)

/-- 'bundlelaw.Ordered': WHATEVER THE INPUT: true; the input reads as it did. -/
def orderedSpec : ChangeSpec := { name := "ordered", fn := fun _ => fun
  | [d1, d2] => { results := [.lit (.bool true)], args := [d1, d2] }
  | _ => none }
def orderedRow : OpenClaim := { program := "ytfccelbmacjifaagreat", sum := "4a0ded6503abba1fbbe2a21235432cd74e58272c760c74c1380343876efbff9f", func := "bundle/bundlelaw.Ordered", spec := "ordered", apart := false }
def OrderedSaid : Prop := orderedRow.holds Tryz.pinned (OpenSpec.ofChange orderedSpec)

/-- ITS FALSE NEIGHBOUR: 'it returns false'. Refute it at one input. -/
def orderedWrong : ChangeSpec := { name := "ordered", fn := fun _ => fun
  | [d1, d2] => { results := [.lit (.bool false)], args := [d1, d2] }
  | _ => none }
def OrderedWrongFalsely : Prop := orderedRow.holds Tryz.pinned (OpenSpec.ofChange orderedWrong)

/-- 'bundlelaw.Frozen': WHATEVER THE INPUT: true; the input reads as it did. -/
def frozenSpec : ChangeSpec := { name := "frozen", fn := fun _ => fun
  | [d1, d2, d3, d4] => { results := [.lit (.bool true)], args := [d1, d2, d3, d4] }
  | _ => none }
def frozenRow : OpenClaim := { program := "ytfccelbmacjifaagreat", sum := "4a0ded6503abba1fbbe2a21235432cd74e58272c760c74c1380343876efbff9f", func := "bundle/bundlelaw.Frozen", spec := "frozen", apart := false }
def FrozenSaid : Prop := frozenRow.holds Tryz.pinned (OpenSpec.ofChange frozenSpec)

/-- ITS FALSE NEIGHBOUR: 'it returns false'. Refute it at one input. -/
def frozenWrong : ChangeSpec := { name := "frozen", fn := fun _ => fun
  | [d1, d2, d3, d4] => { results := [.lit (.bool false)], args := [d1, d2, d3, d4] }
  | _ => none }
def FrozenWrongFalsely : Prop := frozenRow.holds Tryz.pinned (OpenSpec.ofChange frozenWrong)

/-- 'bundlelaw.Cleared': WHATEVER THE INPUT: true; the input reads as it did. -/
def clearedSpec : ChangeSpec := { name := "cleared", fn := fun _ => fun
  | [d1, d2] => { results := [.lit (.bool true)], args := [d1, d2] }
  | _ => none }
def clearedRow : OpenClaim := { program := "ytfccelbmacjifaagreat", sum := "4a0ded6503abba1fbbe2a21235432cd74e58272c760c74c1380343876efbff9f", func := "bundle/bundlelaw.Cleared", spec := "cleared", apart := false }
def ClearedSaid : Prop := clearedRow.holds Tryz.pinned (OpenSpec.ofChange clearedSpec)

/-- ITS FALSE NEIGHBOUR: 'it returns false'. Refute it at one input. -/
def clearedWrong : ChangeSpec := { name := "cleared", fn := fun _ => fun
  | [d1, d2] => { results := [.lit (.bool false)], args := [d1, d2] }
  | _ => none }
def ClearedWrongFalsely : Prop := clearedRow.holds Tryz.pinned (OpenSpec.ofChange clearedWrong)

/- THE SECOND FORM. 'bulk': how many values and letters a reading holds, each counted each time it is reached (what is shared counts as often as it is met; a slice's spare places count too). A statement '..UptoSaid' is the law's where the arguments, and the package variables that the reading takes, are together of bulk at most 1048576: NARROWER than '..Said'. Prove '..Said' where nothing that the law and all that it calls make is longer than what came in: it says more and counts as full. Else prove '..UptoSaid'. A law counts once. -/
mutual
def uptoBulk {H : Type} : DataW H → Nat
  | .lit (.string bytes) => bytes.length + 1
  | .lit _ => 1
  | .nil => 1
  | .ptr d => uptoBulk d + 1
  | .slice elems spare => uptoBulkAll elems + uptoBulkAll spare + 1
  | .agg parts => uptoBulkAll parts + 1
  | .iface _ d => uptoBulk d + 1
  | .map entries => uptoBulkEntries entries + 1
  | .held _ => 1
def uptoBulkAll {H : Type} : List (DataW H) → Nat
  | [] => 0
  | d :: r => uptoBulk d + uptoBulkAll r
def uptoBulkEntries {H : Type} : List (Lit × DataW H) → Nat
  | [] => 0
  | x :: r => uptoBulkEntry x + uptoBulkEntries r
def uptoBulkEntry {H : Type} : Lit × DataW H → Nat
  | (.string bytes, d) => bytes.length + uptoBulk d + 1
  | (_, d) => uptoBulk d + 1
 end
def uptoSmall : (H : Type) → List (DataW H) → Bool := fun _ ds => decide (uptoBulkAll ds ≤ 1048576)
def OpenSpec.upto (s : _root_.Go.ChangeSpec) : _root_.Go.OpenSpec := { _root_.Go.OpenSpec.ofChange s with cond := some uptoSmall }

/-- 'bundlelaw.Updates', WHERE WHAT IT READS IS OF BULK AT MOST 1048576: true; the input reads as it did. -/
def updatesUptoRow : OpenClaim := { program := "ytfccelbmacjifaagreat", sum := "4a0ded6503abba1fbbe2a21235432cd74e58272c760c74c1380343876efbff9f", func := "bundle/bundlelaw.Updates", spec := "updates", apart := false, narrowed := true }
def UpdatesUptoSaid : Prop := updatesUptoRow.holds Tryz.pinned (OpenSpec.upto updatesSpec)

/-- 'bundlelaw.Reads', WHERE WHAT IT READS IS OF BULK AT MOST 1048576: true; the input reads as it did. -/
def readsUptoRow : OpenClaim := { program := "ytfccelbmacjifaagreat", sum := "4a0ded6503abba1fbbe2a21235432cd74e58272c760c74c1380343876efbff9f", func := "bundle/bundlelaw.Reads", spec := "reads", apart := false, narrowed := true }
def ReadsUptoSaid : Prop := readsUptoRow.holds Tryz.pinned (OpenSpec.upto readsSpec)

/-- 'bundlelaw.Sweeps', WHERE WHAT IT READS IS OF BULK AT MOST 1048576: true; the input reads as it did. -/
def sweepsUptoRow : OpenClaim := { program := "ytfccelbmacjifaagreat", sum := "4a0ded6503abba1fbbe2a21235432cd74e58272c760c74c1380343876efbff9f", func := "bundle/bundlelaw.Sweeps", spec := "sweeps", apart := false, narrowed := true }
def SweepsUptoSaid : Prop := sweepsUptoRow.holds Tryz.pinned (OpenSpec.upto sweepsSpec)

/-- 'bundlelaw.Trees', WHERE WHAT IT READS IS OF BULK AT MOST 1048576: true; the input reads as it did. -/
def treesUptoRow : OpenClaim := { program := "ytfccelbmacjifaagreat", sum := "4a0ded6503abba1fbbe2a21235432cd74e58272c760c74c1380343876efbff9f", func := "bundle/bundlelaw.Trees", spec := "trees", apart := false, narrowed := true }
def TreesUptoSaid : Prop := treesUptoRow.holds Tryz.pinned (OpenSpec.upto treesSpec)

/-- 'bundlelaw.All', WHERE WHAT IT READS IS OF BULK AT MOST 1048576: true; the input reads as it did. -/
def allUptoRow : OpenClaim := { program := "ytfccelbmacjifaagreat", sum := "4a0ded6503abba1fbbe2a21235432cd74e58272c760c74c1380343876efbff9f", func := "bundle/bundlelaw.All", spec := "all", apart := false, narrowed := true }
def AllUptoSaid : Prop := allUptoRow.holds Tryz.pinned (OpenSpec.upto allSpec)

/-- 'bundlelaw.Apart', WHERE WHAT IT READS IS OF BULK AT MOST 1048576: true; the input reads as it did. -/
def apartUptoRow : OpenClaim := { program := "ytfccelbmacjifaagreat", sum := "4a0ded6503abba1fbbe2a21235432cd74e58272c760c74c1380343876efbff9f", func := "bundle/bundlelaw.Apart", spec := "apart", apart := false, narrowed := true }
def ApartUptoSaid : Prop := apartUptoRow.holds Tryz.pinned (OpenSpec.upto apartSpec)

/-- 'bundlelaw.Alone', WHERE WHAT IT READS IS OF BULK AT MOST 1048576: true; the input reads as it did. -/
def aloneUptoRow : OpenClaim := { program := "ytfccelbmacjifaagreat", sum := "4a0ded6503abba1fbbe2a21235432cd74e58272c760c74c1380343876efbff9f", func := "bundle/bundlelaw.Alone", spec := "alone", apart := false, narrowed := true }
def AloneUptoSaid : Prop := aloneUptoRow.holds Tryz.pinned (OpenSpec.upto aloneSpec)

/-- 'bundlelaw.Ends', WHERE WHAT IT READS IS OF BULK AT MOST 1048576: true; the input reads as it did. -/
def endsUptoRow : OpenClaim := { program := "ytfccelbmacjifaagreat", sum := "4a0ded6503abba1fbbe2a21235432cd74e58272c760c74c1380343876efbff9f", func := "bundle/bundlelaw.Ends", spec := "ends", apart := false, narrowed := true }
def EndsUptoSaid : Prop := endsUptoRow.holds Tryz.pinned (OpenSpec.upto endsSpec)

/-- 'bundlelaw.Ordered', WHERE WHAT IT READS IS OF BULK AT MOST 1048576: true; the input reads as it did. -/
def orderedUptoRow : OpenClaim := { program := "ytfccelbmacjifaagreat", sum := "4a0ded6503abba1fbbe2a21235432cd74e58272c760c74c1380343876efbff9f", func := "bundle/bundlelaw.Ordered", spec := "ordered", apart := false, narrowed := true }
def OrderedUptoSaid : Prop := orderedUptoRow.holds Tryz.pinned (OpenSpec.upto orderedSpec)

/-- 'bundlelaw.Frozen', WHERE WHAT IT READS IS OF BULK AT MOST 1048576: true; the input reads as it did. -/
def frozenUptoRow : OpenClaim := { program := "ytfccelbmacjifaagreat", sum := "4a0ded6503abba1fbbe2a21235432cd74e58272c760c74c1380343876efbff9f", func := "bundle/bundlelaw.Frozen", spec := "frozen", apart := false, narrowed := true }
def FrozenUptoSaid : Prop := frozenUptoRow.holds Tryz.pinned (OpenSpec.upto frozenSpec)

/-- 'bundlelaw.Cleared', WHERE WHAT IT READS IS OF BULK AT MOST 1048576: true; the input reads as it did. -/
def clearedUptoRow : OpenClaim := { program := "ytfccelbmacjifaagreat", sum := "4a0ded6503abba1fbbe2a21235432cd74e58272c760c74c1380343876efbff9f", func := "bundle/bundlelaw.Cleared", spec := "cleared", apart := false, narrowed := true }
def ClearedUptoSaid : Prop := clearedUptoRow.holds Tryz.pinned (OpenSpec.upto clearedSpec)

end Rows
end Go.Proofs.YtfccelbmacjifaaGreat
