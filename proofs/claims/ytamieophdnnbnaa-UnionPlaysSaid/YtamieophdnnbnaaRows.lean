/-
  No cell of these rows narrows 'for every input' (looked for: loops, veiled, ifaces, maps, wideKeys, modest, calm, conditions, laid).
  DERIVED. THE GIVEN ROWS OF THIS SEAT. 5 by the template 'for every input the law returns true; each argument reads behind the call as it read before'; 0 by the template 'total and deterministic' (their statements: YtamieophdnnbnaaTotals.lean).
  GIVEN WITH THE SEED: the statements are not yours to turn. If you find one false, say at which input.
  Laid BY PROGRAM, IN A SANDBOX (cutbox-rows.mjs): the forced cells as the released guide's own fill.sh prints them over the translation fc518b93625e6c02… (all of the seat's roots in one cut). By AI agents, Wed Nov 11 2026. No macro, syntax, notation, axiom, sorry.
-/
import Derived.Test.YtamieophdnnbnaaChecked
import GoSem.Claim
import GoSem.ClaimJoined
import GoSem.ClaimMapViews
import Derived.JoinedTies
import Derived.KernelRfl
namespace Go.Proofs.Ytamieophdnnbnaa
/- THE CELL 'sum', in the pinned program and in every row, IS THE sha256 OF THE DUMP (.gsa) THAT YtamieophdnnbnaaProg.lean LOADS. Nothing in Lean hashes anything: it is a label: what it is worth is what the hold of that sum in a sandbox is worth. -/
noncomputable def Try.pinned : Pinned := { name := "ytamieophdnnbnaa", sum := "fc518b93625e6c020f3964d9c3dc72430862f692838207a43f1371a4c180c600", checked := Try.checked }
namespace Rows
def none {H : Type} : Left H := { results := [], args := [] }

/-- 'pangramlaw09.UnionPlays': WHATEVER THE INPUT: true; the input reads as it did. -/
def unionPlaysSpec : ChangeSpec := { name := "unionPlays", fn := fun _ => fun
  | [d1, d2] => { results := [.lit (.bool true)], args := [d1, d2] }
  | _ => none }
def unionPlaysRow : OpenClaim := { program := "ytamieophdnnbnaa", sum := "fc518b93625e6c020f3964d9c3dc72430862f692838207a43f1371a4c180c600", func := "pangram/pangramlaw09.UnionPlays", spec := "unionPlays", unfollowed := true, recurses := true, apart := false }
def UnionPlaysSaid : Prop := unionPlaysRow.holds Try.pinned (OpenSpec.ofChange unionPlaysSpec)

/-- ITS FALSE NEIGHBOUR: 'it returns false'. Refute it at one input. -/
def unionPlaysWrong : ChangeSpec := { name := "unionPlays", fn := fun _ => fun
  | [d1, d2] => { results := [.lit (.bool false)], args := [d1, d2] }
  | _ => none }
def UnionPlaysWrongFalsely : Prop := unionPlaysRow.holds Try.pinned (OpenSpec.ofChange unionPlaysWrong)

/-- 'pangramlaw09.UnionOrder': WHATEVER THE INPUT: true; the input reads as it did. -/
def unionOrderSpec : ChangeSpec := { name := "unionOrder", fn := fun _ => fun
  | [d1, d2, d3] => { results := [.lit (.bool true)], args := [d1, d2, d3] }
  | _ => none }
def unionOrderRow : OpenClaim := { program := "ytamieophdnnbnaa", sum := "fc518b93625e6c020f3964d9c3dc72430862f692838207a43f1371a4c180c600", func := "pangram/pangramlaw09.UnionOrder", spec := "unionOrder", apart := false }
def UnionOrderSaid : Prop := unionOrderRow.holds Try.pinned (OpenSpec.ofChange unionOrderSpec)

/-- ITS FALSE NEIGHBOUR: 'it returns false'. Refute it at one input. -/
def unionOrderWrong : ChangeSpec := { name := "unionOrder", fn := fun _ => fun
  | [d1, d2, d3] => { results := [.lit (.bool false)], args := [d1, d2, d3] }
  | _ => none }
def UnionOrderWrongFalsely : Prop := unionOrderRow.holds Try.pinned (OpenSpec.ofChange unionOrderWrong)

/-- 'pangramlaw09.UnionLeast': WHATEVER THE INPUT: true; the input reads as it did. -/
def unionLeastSpec : ChangeSpec := { name := "unionLeast", fn := fun _ => fun
  | [d1, d2] => { results := [.lit (.bool true)], args := [d1, d2] }
  | _ => none }
def unionLeastRow : OpenClaim := { program := "ytamieophdnnbnaa", sum := "fc518b93625e6c020f3964d9c3dc72430862f692838207a43f1371a4c180c600", func := "pangram/pangramlaw09.UnionLeast", spec := "unionLeast", apart := false }
def UnionLeastSaid : Prop := unionLeastRow.holds Try.pinned (OpenSpec.ofChange unionLeastSpec)

/-- ITS FALSE NEIGHBOUR: 'it returns false'. Refute it at one input. -/
def unionLeastWrong : ChangeSpec := { name := "unionLeast", fn := fun _ => fun
  | [d1, d2] => { results := [.lit (.bool false)], args := [d1, d2] }
  | _ => none }
def UnionLeastWrongFalsely : Prop := unionLeastRow.holds Try.pinned (OpenSpec.ofChange unionLeastWrong)

/-- 'pangramlaw09.UnionCopies': WHATEVER THE INPUT: true; the input reads as it did. -/
def unionCopiesSpec : ChangeSpec := { name := "unionCopies", fn := fun _ => fun
  | [d1, d2, d3] => { results := [.lit (.bool true)], args := [d1, d2, d3] }
  | _ => none }
def unionCopiesRow : OpenClaim := { program := "ytamieophdnnbnaa", sum := "fc518b93625e6c020f3964d9c3dc72430862f692838207a43f1371a4c180c600", func := "pangram/pangramlaw09.UnionCopies", spec := "unionCopies", unfollowed := true, recurses := true, apart := false }
def UnionCopiesSaid : Prop := unionCopiesRow.holds Try.pinned (OpenSpec.ofChange unionCopiesSpec)

/-- ITS FALSE NEIGHBOUR: 'it returns false'. Refute it at one input. -/
def unionCopiesWrong : ChangeSpec := { name := "unionCopies", fn := fun _ => fun
  | [d1, d2, d3] => { results := [.lit (.bool false)], args := [d1, d2, d3] }
  | _ => none }
def UnionCopiesWrongFalsely : Prop := unionCopiesRow.holds Try.pinned (OpenSpec.ofChange unionCopiesWrong)

/-- 'pangramlaw09.UnionNone': WHATEVER THE INPUT: true; the input reads as it did. -/
def unionNoneSpec : ChangeSpec := { name := "unionNone", fn := fun _ => fun
  | [d1, d2, d3] => { results := [.lit (.bool true)], args := [d1, d2, d3] }
  | _ => none }
def unionNoneRow : OpenClaim := { program := "ytamieophdnnbnaa", sum := "fc518b93625e6c020f3964d9c3dc72430862f692838207a43f1371a4c180c600", func := "pangram/pangramlaw09.UnionNone", spec := "unionNone", unfollowed := true, recurses := true, apart := false }
def UnionNoneSaid : Prop := unionNoneRow.holds Try.pinned (OpenSpec.ofChange unionNoneSpec)

/-- ITS FALSE NEIGHBOUR: 'it returns false'. Refute it at one input. -/
def unionNoneWrong : ChangeSpec := { name := "unionNone", fn := fun _ => fun
  | [d1, d2, d3] => { results := [.lit (.bool false)], args := [d1, d2, d3] }
  | _ => none }
def UnionNoneWrongFalsely : Prop := unionNoneRow.holds Try.pinned (OpenSpec.ofChange unionNoneWrong)

/- THE SECOND FORM. 'bulk': how many values and letters a reading holds, each counted each time it is reached (what is shared counts as often as it is met; a slice's spare places count too). A statement '..UptoSaid' is the law's where the arguments, and the package variables that the reading takes, are together of bulk at most 1048576: NARROWER than '..Said'. Prove '..Said' where nothing that the law and all that it calls make is longer than what came in: it says more and counts as full. Else prove '..UptoSaid'. A law counts once. -/
mutual
def uptoBulk {H : Type} : DataW H → Nat
  | .lit (.string bytes) => bytes.length + 1
  | .lit _ => 1
  | .nil => 1
  | .ptr d => uptoBulk d + 1
  | .slice elems spare => uptoBulkAll elems + uptoBulkAll spare + 1
  | .agg parts => uptoBulkAll parts + 1
  | .iface _ d => uptoBulk d + 1
  | .map entries => uptoBulkEntries entries + 1
  | .held _ => 1
def uptoBulkAll {H : Type} : List (DataW H) → Nat
  | [] => 0
  | d :: r => uptoBulk d + uptoBulkAll r
def uptoBulkEntries {H : Type} : List (Lit × DataW H) → Nat
  | [] => 0
  | x :: r => uptoBulkEntry x + uptoBulkEntries r
def uptoBulkEntry {H : Type} : Lit × DataW H → Nat
  | (.string bytes, d) => bytes.length + uptoBulk d + 1
  | (_, d) => uptoBulk d + 1
 end
def uptoSmall : (H : Type) → List (DataW H) → Bool := fun _ ds => decide (uptoBulkAll ds ≤ 1048576)
def OpenSpec.upto (s : _root_.Go.ChangeSpec) : _root_.Go.OpenSpec := { _root_.Go.OpenSpec.ofChange s with cond := some uptoSmall }

/-- 'pangramlaw09.UnionPlays', WHERE WHAT IT READS IS OF BULK AT MOST 1048576: true; the input reads as it did. -/
def unionPlaysUptoRow : OpenClaim := { program := "ytamieophdnnbnaa", sum := "fc518b93625e6c020f3964d9c3dc72430862f692838207a43f1371a4c180c600", func := "pangram/pangramlaw09.UnionPlays", spec := "unionPlays", unfollowed := true, recurses := true, apart := false, narrowed := true }
def UnionPlaysUptoSaid : Prop := unionPlaysUptoRow.holds Try.pinned (OpenSpec.upto unionPlaysSpec)

/-- 'pangramlaw09.UnionOrder', WHERE WHAT IT READS IS OF BULK AT MOST 1048576: true; the input reads as it did. -/
def unionOrderUptoRow : OpenClaim := { program := "ytamieophdnnbnaa", sum := "fc518b93625e6c020f3964d9c3dc72430862f692838207a43f1371a4c180c600", func := "pangram/pangramlaw09.UnionOrder", spec := "unionOrder", apart := false, narrowed := true }
def UnionOrderUptoSaid : Prop := unionOrderUptoRow.holds Try.pinned (OpenSpec.upto unionOrderSpec)

/-- 'pangramlaw09.UnionLeast', WHERE WHAT IT READS IS OF BULK AT MOST 1048576: true; the input reads as it did. -/
def unionLeastUptoRow : OpenClaim := { program := "ytamieophdnnbnaa", sum := "fc518b93625e6c020f3964d9c3dc72430862f692838207a43f1371a4c180c600", func := "pangram/pangramlaw09.UnionLeast", spec := "unionLeast", apart := false, narrowed := true }
def UnionLeastUptoSaid : Prop := unionLeastUptoRow.holds Try.pinned (OpenSpec.upto unionLeastSpec)

/-- 'pangramlaw09.UnionCopies', WHERE WHAT IT READS IS OF BULK AT MOST 1048576: true; the input reads as it did. -/
def unionCopiesUptoRow : OpenClaim := { program := "ytamieophdnnbnaa", sum := "fc518b93625e6c020f3964d9c3dc72430862f692838207a43f1371a4c180c600", func := "pangram/pangramlaw09.UnionCopies", spec := "unionCopies", unfollowed := true, recurses := true, apart := false, narrowed := true }
def UnionCopiesUptoSaid : Prop := unionCopiesUptoRow.holds Try.pinned (OpenSpec.upto unionCopiesSpec)

/-- 'pangramlaw09.UnionNone', WHERE WHAT IT READS IS OF BULK AT MOST 1048576: true; the input reads as it did. -/
def unionNoneUptoRow : OpenClaim := { program := "ytamieophdnnbnaa", sum := "fc518b93625e6c020f3964d9c3dc72430862f692838207a43f1371a4c180c600", func := "pangram/pangramlaw09.UnionNone", spec := "unionNone", unfollowed := true, recurses := true, apart := false, narrowed := true }
def UnionNoneUptoSaid : Prop := unionNoneUptoRow.holds Try.pinned (OpenSpec.upto unionNoneSpec)

end Rows
end Go.Proofs.Ytamieophdnnbnaa
