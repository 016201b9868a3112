/-
  No cell of these rows narrows 'for every input' (looked for: loops, veiled, ifaces, maps, wideKeys, modest, calm, conditions, laid).
  DERIVED. THE GIVEN ROWS OF THIS SEAT. 6 by the template 'for every input the law returns true; each argument reads behind the call as it read before'; 0 by the template 'total and deterministic' (their statements: YtjadidjpfdjacaaTotals.lean).
  GIVEN WITH THE SEED: the statements are not yours to turn. If you find one false, say at which input.
  Laid BY PROGRAM, IN A SANDBOX (cutbox-rows.mjs): the forced cells as the released guide's own fill.sh prints them over the translation da841d03dc44c90f… (all of the seat's roots in one cut). By AI agents, Wed Nov 11 2026. No macro, syntax, notation, axiom, sorry.
-/
import Derived.Test.YtjadidjpfdjacaaChecked
import GoSem.Claim
import GoSem.ClaimJoined
import GoSem.ClaimMapViews
import Derived.JoinedTies
import Derived.KernelRfl
namespace Go.Proofs.Ytjadidjpfdjacaa
/- THE CELL 'sum', in the pinned program and in every row, IS THE sha256 OF THE DUMP (.gsa) THAT YtjadidjpfdjacaaProg.lean LOADS. Nothing in Lean hashes anything: it is a label: what it is worth is what the hold of that sum in a sandbox is worth. -/
noncomputable def Try.pinned : Pinned := { name := "ytjadidjpfdjacaa", sum := "da841d03dc44c90ff827beee0c6e73c518ba31bde5f7444957eff5eb82cbb96e", checked := Try.checked }
namespace Rows
def none {H : Type} : Left H := { results := [], args := [] }

/-- 'bundlelaw.News': WHATEVER THE INPUT: true; the input reads as it did. -/
def newsSpec : ChangeSpec := { name := "news", fn := fun _ => fun
  | [d] => { results := [.lit (.bool true)], args := [d] }
  | _ => none }
def newsRow : OpenClaim := { program := "ytjadidjpfdjacaa", sum := "da841d03dc44c90ff827beee0c6e73c518ba31bde5f7444957eff5eb82cbb96e", func := "bundle/bundlelaw.News", spec := "news", apart := false }
def NewsSaid : Prop := newsRow.holds Try.pinned (OpenSpec.ofChange newsSpec)

/-- ITS FALSE NEIGHBOUR: 'it returns false'. Refute it at one input. -/
def newsWrong : ChangeSpec := { name := "news", fn := fun _ => fun
  | [d] => { results := [.lit (.bool false)], args := [d] }
  | _ => none }
def NewsWrongFalsely : Prop := newsRow.holds Try.pinned (OpenSpec.ofChange newsWrong)

/-- 'bundlelaw.Alone': WHATEVER THE INPUT: true; the input reads as it did. -/
def aloneSpec : ChangeSpec := { name := "alone", fn := fun _ => fun
  | [d1, d2] => { results := [.lit (.bool true)], args := [d1, d2] }
  | _ => none }
def aloneRow : OpenClaim := { program := "ytjadidjpfdjacaa", sum := "da841d03dc44c90ff827beee0c6e73c518ba31bde5f7444957eff5eb82cbb96e", func := "bundle/bundlelaw.Alone", spec := "alone", apart := false }
def AloneSaid : Prop := aloneRow.holds Try.pinned (OpenSpec.ofChange aloneSpec)

/-- ITS FALSE NEIGHBOUR: 'it returns false'. Refute it at one input. -/
def aloneWrong : ChangeSpec := { name := "alone", fn := fun _ => fun
  | [d1, d2] => { results := [.lit (.bool false)], args := [d1, d2] }
  | _ => none }
def AloneWrongFalsely : Prop := aloneRow.holds Try.pinned (OpenSpec.ofChange aloneWrong)

/-- 'bundlelaw.Ends': WHATEVER THE INPUT: true; the input reads as it did. -/
def endsSpec : ChangeSpec := { name := "ends", fn := fun _ => fun
  | [d1, d2] => { results := [.lit (.bool true)], args := [d1, d2] }
  | _ => none }
def endsRow : OpenClaim := { program := "ytjadidjpfdjacaa", sum := "da841d03dc44c90ff827beee0c6e73c518ba31bde5f7444957eff5eb82cbb96e", func := "bundle/bundlelaw.Ends", spec := "ends", apart := false }
def EndsSaid : Prop := endsRow.holds Try.pinned (OpenSpec.ofChange endsSpec)

/-- ITS FALSE NEIGHBOUR: 'it returns false'. Refute it at one input. -/
def endsWrong : ChangeSpec := { name := "ends", fn := fun _ => fun
  | [d1, d2] => { results := [.lit (.bool false)], args := [d1, d2] }
  | _ => none }
def EndsWrongFalsely : Prop := endsRow.holds Try.pinned (OpenSpec.ofChange endsWrong)

/-- 'bundlelaw.Ordered': WHATEVER THE INPUT: true; the input reads as it did. -/
def orderedSpec : ChangeSpec := { name := "ordered", fn := fun _ => fun
  | [d1, d2] => { results := [.lit (.bool true)], args := [d1, d2] }
  | _ => none }
def orderedRow : OpenClaim := { program := "ytjadidjpfdjacaa", sum := "da841d03dc44c90ff827beee0c6e73c518ba31bde5f7444957eff5eb82cbb96e", func := "bundle/bundlelaw.Ordered", spec := "ordered", apart := false }
def OrderedSaid : Prop := orderedRow.holds Try.pinned (OpenSpec.ofChange orderedSpec)

/-- ITS FALSE NEIGHBOUR: 'it returns false'. Refute it at one input. -/
def orderedWrong : ChangeSpec := { name := "ordered", fn := fun _ => fun
  | [d1, d2] => { results := [.lit (.bool false)], args := [d1, d2] }
  | _ => none }
def OrderedWrongFalsely : Prop := orderedRow.holds Try.pinned (OpenSpec.ofChange orderedWrong)

/-- 'bundlelaw.Frozen': WHATEVER THE INPUT: true; the input reads as it did. -/
def frozenSpec : ChangeSpec := { name := "frozen", fn := fun _ => fun
  | [d1, d2, d3, d4] => { results := [.lit (.bool true)], args := [d1, d2, d3, d4] }
  | _ => none }
def frozenRow : OpenClaim := { program := "ytjadidjpfdjacaa", sum := "da841d03dc44c90ff827beee0c6e73c518ba31bde5f7444957eff5eb82cbb96e", func := "bundle/bundlelaw.Frozen", spec := "frozen", apart := false }
def FrozenSaid : Prop := frozenRow.holds Try.pinned (OpenSpec.ofChange frozenSpec)

/-- ITS FALSE NEIGHBOUR: 'it returns false'. Refute it at one input. -/
def frozenWrong : ChangeSpec := { name := "frozen", fn := fun _ => fun
  | [d1, d2, d3, d4] => { results := [.lit (.bool false)], args := [d1, d2, d3, d4] }
  | _ => none }
def FrozenWrongFalsely : Prop := frozenRow.holds Try.pinned (OpenSpec.ofChange frozenWrong)

/-- 'bundlelaw.Cleared': WHATEVER THE INPUT: true; the input reads as it did. -/
def clearedSpec : ChangeSpec := { name := "cleared", fn := fun _ => fun
  | [d1, d2] => { results := [.lit (.bool true)], args := [d1, d2] }
  | _ => none }
def clearedRow : OpenClaim := { program := "ytjadidjpfdjacaa", sum := "da841d03dc44c90ff827beee0c6e73c518ba31bde5f7444957eff5eb82cbb96e", func := "bundle/bundlelaw.Cleared", spec := "cleared", apart := false }
def ClearedSaid : Prop := clearedRow.holds Try.pinned (OpenSpec.ofChange clearedSpec)

/-- ITS FALSE NEIGHBOUR: 'it returns false'. Refute it at one input. -/
def clearedWrong : ChangeSpec := { name := "cleared", fn := fun _ => fun
  | [d1, d2] => { results := [.lit (.bool false)], args := [d1, d2] }
  | _ => none }
def ClearedWrongFalsely : Prop := clearedRow.holds Try.pinned (OpenSpec.ofChange clearedWrong)

/- THE SECOND FORM. 'bulk': how many values and letters a reading holds, each counted each time it is reached (what is shared counts as often as it is met; a slice's spare places count too). A statement '..UptoSaid' is the law's where the arguments, and the package variables that the reading takes, are together of bulk at most 1048576: NARROWER than '..Said'. Prove '..Said' where nothing that the law and all that it calls make is longer than what came in: it says more and counts as full. Else prove '..UptoSaid'. A law counts once. -/
mutual
def uptoBulk {H : Type} : DataW H → Nat
  | .lit (.string bytes) => bytes.length + 1
  | .lit _ => 1
  | .nil => 1
  | .ptr d => uptoBulk d + 1
  | .slice elems spare => uptoBulkAll elems + uptoBulkAll spare + 1
  | .agg parts => uptoBulkAll parts + 1
  | .iface _ d => uptoBulk d + 1
  | .map entries => uptoBulkEntries entries + 1
  | .held _ => 1
def uptoBulkAll {H : Type} : List (DataW H) → Nat
  | [] => 0
  | d :: r => uptoBulk d + uptoBulkAll r
def uptoBulkEntries {H : Type} : List (Lit × DataW H) → Nat
  | [] => 0
  | x :: r => uptoBulkEntry x + uptoBulkEntries r
def uptoBulkEntry {H : Type} : Lit × DataW H → Nat
  | (.string bytes, d) => bytes.length + uptoBulk d + 1
  | (_, d) => uptoBulk d + 1
 end
def uptoSmall : (H : Type) → List (DataW H) → Bool := fun _ ds => decide (uptoBulkAll ds ≤ 1048576)
def OpenSpec.upto (s : _root_.Go.ChangeSpec) : _root_.Go.OpenSpec := { _root_.Go.OpenSpec.ofChange s with cond := some uptoSmall }

/-- 'bundlelaw.News', WHERE WHAT IT READS IS OF BULK AT MOST 1048576: true; the input reads as it did. -/
def newsUptoRow : OpenClaim := { program := "ytjadidjpfdjacaa", sum := "da841d03dc44c90ff827beee0c6e73c518ba31bde5f7444957eff5eb82cbb96e", func := "bundle/bundlelaw.News", spec := "news", apart := false, narrowed := true }
def NewsUptoSaid : Prop := newsUptoRow.holds Try.pinned (OpenSpec.upto newsSpec)

/-- 'bundlelaw.Alone', WHERE WHAT IT READS IS OF BULK AT MOST 1048576: true; the input reads as it did. -/
def aloneUptoRow : OpenClaim := { program := "ytjadidjpfdjacaa", sum := "da841d03dc44c90ff827beee0c6e73c518ba31bde5f7444957eff5eb82cbb96e", func := "bundle/bundlelaw.Alone", spec := "alone", apart := false, narrowed := true }
def AloneUptoSaid : Prop := aloneUptoRow.holds Try.pinned (OpenSpec.upto aloneSpec)

/-- 'bundlelaw.Ends', WHERE WHAT IT READS IS OF BULK AT MOST 1048576: true; the input reads as it did. -/
def endsUptoRow : OpenClaim := { program := "ytjadidjpfdjacaa", sum := "da841d03dc44c90ff827beee0c6e73c518ba31bde5f7444957eff5eb82cbb96e", func := "bundle/bundlelaw.Ends", spec := "ends", apart := false, narrowed := true }
def EndsUptoSaid : Prop := endsUptoRow.holds Try.pinned (OpenSpec.upto endsSpec)

/-- 'bundlelaw.Ordered', WHERE WHAT IT READS IS OF BULK AT MOST 1048576: true; the input reads as it did. -/
def orderedUptoRow : OpenClaim := { program := "ytjadidjpfdjacaa", sum := "da841d03dc44c90ff827beee0c6e73c518ba31bde5f7444957eff5eb82cbb96e", func := "bundle/bundlelaw.Ordered", spec := "ordered", apart := false, narrowed := true }
def OrderedUptoSaid : Prop := orderedUptoRow.holds Try.pinned (OpenSpec.upto orderedSpec)

/-- 'bundlelaw.Frozen', WHERE WHAT IT READS IS OF BULK AT MOST 1048576: true; the input reads as it did. -/
def frozenUptoRow : OpenClaim := { program := "ytjadidjpfdjacaa", sum := "da841d03dc44c90ff827beee0c6e73c518ba31bde5f7444957eff5eb82cbb96e", func := "bundle/bundlelaw.Frozen", spec := "frozen", apart := false, narrowed := true }
def FrozenUptoSaid : Prop := frozenUptoRow.holds Try.pinned (OpenSpec.upto frozenSpec)

/-- 'bundlelaw.Cleared', WHERE WHAT IT READS IS OF BULK AT MOST 1048576: true; the input reads as it did. -/
def clearedUptoRow : OpenClaim := { program := "ytjadidjpfdjacaa", sum := "da841d03dc44c90ff827beee0c6e73c518ba31bde5f7444957eff5eb82cbb96e", func := "bundle/bundlelaw.Cleared", spec := "cleared", apart := false, narrowed := true }
def ClearedUptoSaid : Prop := clearedUptoRow.holds Try.pinned (OpenSpec.upto clearedSpec)

end Rows
end Go.Proofs.Ytjadidjpfdjacaa
