/-
  NARROWER THAN 'FOR EVERY INPUT', by the rows' own cells (each row's printed sentence says how): GraphAdds: loops · GraphTypes: loops · GraphKeeps: loops · GraphNone: loops · UnifyFirst: loops · UnifyNone: loops.
  DERIVED. THE GIVEN ROWS OF THIS SEAT. 7 by the template 'for every input the law returns true; each argument reads behind the call as it read before'; 0 by the template 'total and deterministic' (their statements: YtbdckmnppeglfaaTotals.lean).
  GIVEN WITH THE SEED: the statements are not yours to turn. If you find one false, say at which input.
  Laid BY PROGRAM, IN A SANDBOX (cutbox-rows.mjs): the forced cells as the released guide's own fill.sh prints them over the translation b134a39e5e8af13d… (all of the seat's roots in one cut). By AI agents, Wed Nov 11 2026. No macro, syntax, notation, axiom, sorry.
-/
import Derived.Test.YtbdckmnppeglfaaChecked
import GoSem.Claim
import GoSem.ClaimJoined
import GoSem.ClaimMapViews
import Derived.JoinedTies
import Derived.KernelRfl
namespace Go.Proofs.Ytbdckmnppeglfaa
/- THE CELL 'sum', in the pinned program and in every row, IS THE sha256 OF THE DUMP (.gsa) THAT YtbdckmnppeglfaaProg.lean LOADS. Nothing in Lean hashes anything: it is a label: what it is worth is what the hold of that sum in a sandbox is worth. -/
noncomputable def Try.pinned : Pinned := { name := "ytbdckmnppeglfaa", sum := "b134a39e5e8af13d29d96ec466c8c80fb18e40fae9f7d3cbbe3a748e38a1f4f3", checked := Try.checked }
namespace Rows
def none {H : Type} : Left H := { results := [], args := [] }

/-- 'pangramlaw11.GraphAdds': WHATEVER THE INPUT: true; the input reads as it did. -/
def graphAddsSpec : ChangeSpec := { name := "graphAdds", fn := fun _ => fun
  | [d1, d2] => { results := [.lit (.bool true)], args := [d1, d2] }
  | _ => none }
def graphAddsRow : OpenClaim := { program := "ytbdckmnppeglfaa", sum := "b134a39e5e8af13d29d96ec466c8c80fb18e40fae9f7d3cbbe3a748e38a1f4f3", func := "pangram/pangramlaw11.GraphAdds", spec := "graphAdds", unfollowed := true, recurses := true, loops := true, apart := false }
def GraphAddsSaid : Prop := graphAddsRow.holds Try.pinned (OpenSpec.ofChange graphAddsSpec)

/-- ITS FALSE NEIGHBOUR: 'it returns false'. Refute it at one input. -/
def graphAddsWrong : ChangeSpec := { name := "graphAdds", fn := fun _ => fun
  | [d1, d2] => { results := [.lit (.bool false)], args := [d1, d2] }
  | _ => none }
def GraphAddsWrongFalsely : Prop := graphAddsRow.holds Try.pinned (OpenSpec.ofChange graphAddsWrong)

/-- 'pangramlaw11.GraphTypes': WHATEVER THE INPUT: true; the input reads as it did. -/
def graphTypesSpec : ChangeSpec := { name := "graphTypes", fn := fun _ => fun
  | [d1, d2, d3] => { results := [.lit (.bool true)], args := [d1, d2, d3] }
  | _ => none }
def graphTypesRow : OpenClaim := { program := "ytbdckmnppeglfaa", sum := "b134a39e5e8af13d29d96ec466c8c80fb18e40fae9f7d3cbbe3a748e38a1f4f3", func := "pangram/pangramlaw11.GraphTypes", spec := "graphTypes", unfollowed := true, recurses := true, loops := true, apart := false }
def GraphTypesSaid : Prop := graphTypesRow.holds Try.pinned (OpenSpec.ofChange graphTypesSpec)

/-- ITS FALSE NEIGHBOUR: 'it returns false'. Refute it at one input. -/
def graphTypesWrong : ChangeSpec := { name := "graphTypes", fn := fun _ => fun
  | [d1, d2, d3] => { results := [.lit (.bool false)], args := [d1, d2, d3] }
  | _ => none }
def GraphTypesWrongFalsely : Prop := graphTypesRow.holds Try.pinned (OpenSpec.ofChange graphTypesWrong)

/-- 'pangramlaw11.GraphKeeps': WHATEVER THE INPUT: true; the input reads as it did. -/
def graphKeepsSpec : ChangeSpec := { name := "graphKeeps", fn := fun _ => fun
  | [d1, d2] => { results := [.lit (.bool true)], args := [d1, d2] }
  | _ => none }
def graphKeepsRow : OpenClaim := { program := "ytbdckmnppeglfaa", sum := "b134a39e5e8af13d29d96ec466c8c80fb18e40fae9f7d3cbbe3a748e38a1f4f3", func := "pangram/pangramlaw11.GraphKeeps", spec := "graphKeeps", unfollowed := true, recurses := true, loops := true, apart := false }
def GraphKeepsSaid : Prop := graphKeepsRow.holds Try.pinned (OpenSpec.ofChange graphKeepsSpec)

/-- ITS FALSE NEIGHBOUR: 'it returns false'. Refute it at one input. -/
def graphKeepsWrong : ChangeSpec := { name := "graphKeeps", fn := fun _ => fun
  | [d1, d2] => { results := [.lit (.bool false)], args := [d1, d2] }
  | _ => none }
def GraphKeepsWrongFalsely : Prop := graphKeepsRow.holds Try.pinned (OpenSpec.ofChange graphKeepsWrong)

/-- 'pangramlaw11.GraphNone': WHATEVER THE INPUT: true; the input reads as it did. -/
def graphNoneSpec : ChangeSpec := { name := "graphNone", fn := fun _ => fun
  | [d1, d2, d3] => { results := [.lit (.bool true)], args := [d1, d2, d3] }
  | _ => none }
def graphNoneRow : OpenClaim := { program := "ytbdckmnppeglfaa", sum := "b134a39e5e8af13d29d96ec466c8c80fb18e40fae9f7d3cbbe3a748e38a1f4f3", func := "pangram/pangramlaw11.GraphNone", spec := "graphNone", unfollowed := true, recurses := true, loops := true, apart := false }
def GraphNoneSaid : Prop := graphNoneRow.holds Try.pinned (OpenSpec.ofChange graphNoneSpec)

/-- ITS FALSE NEIGHBOUR: 'it returns false'. Refute it at one input. -/
def graphNoneWrong : ChangeSpec := { name := "graphNone", fn := fun _ => fun
  | [d1, d2, d3] => { results := [.lit (.bool false)], args := [d1, d2, d3] }
  | _ => none }
def GraphNoneWrongFalsely : Prop := graphNoneRow.holds Try.pinned (OpenSpec.ofChange graphNoneWrong)

/-- 'pangramlaw12.UnifyFirst': WHATEVER THE INPUT: true; the input reads as it did. -/
def unifyFirstSpec : ChangeSpec := { name := "unifyFirst", fn := fun _ => fun
  | [d] => { results := [.lit (.bool true)], args := [d] }
  | _ => none }
def unifyFirstRow : OpenClaim := { program := "ytbdckmnppeglfaa", sum := "b134a39e5e8af13d29d96ec466c8c80fb18e40fae9f7d3cbbe3a748e38a1f4f3", func := "pangram/pangramlaw12.UnifyFirst", spec := "unifyFirst", unfollowed := true, recurses := true, loops := true, apart := false }
def UnifyFirstSaid : Prop := unifyFirstRow.holds Try.pinned (OpenSpec.ofChange unifyFirstSpec)

/-- ITS FALSE NEIGHBOUR: 'it returns false'. Refute it at one input. -/
def unifyFirstWrong : ChangeSpec := { name := "unifyFirst", fn := fun _ => fun
  | [d] => { results := [.lit (.bool false)], args := [d] }
  | _ => none }
def UnifyFirstWrongFalsely : Prop := unifyFirstRow.holds Try.pinned (OpenSpec.ofChange unifyFirstWrong)

/-- 'pangramlaw12.UnifyNone': WHATEVER THE INPUT: true; the input reads as it did. -/
def unifyNoneSpec : ChangeSpec := { name := "unifyNone", fn := fun _ => fun
  | [d1, d2, d3] => { results := [.lit (.bool true)], args := [d1, d2, d3] }
  | _ => none }
def unifyNoneRow : OpenClaim := { program := "ytbdckmnppeglfaa", sum := "b134a39e5e8af13d29d96ec466c8c80fb18e40fae9f7d3cbbe3a748e38a1f4f3", func := "pangram/pangramlaw12.UnifyNone", spec := "unifyNone", unfollowed := true, recurses := true, loops := true, apart := false }
def UnifyNoneSaid : Prop := unifyNoneRow.holds Try.pinned (OpenSpec.ofChange unifyNoneSpec)

/-- ITS FALSE NEIGHBOUR: 'it returns false'. Refute it at one input. -/
def unifyNoneWrong : ChangeSpec := { name := "unifyNone", fn := fun _ => fun
  | [d1, d2, d3] => { results := [.lit (.bool false)], args := [d1, d2, d3] }
  | _ => none }
def UnifyNoneWrongFalsely : Prop := unifyNoneRow.holds Try.pinned (OpenSpec.ofChange unifyNoneWrong)

/-- 'pangramlaw13.CycleNone': WHATEVER THE INPUT: true; the input reads as it did. -/
def cycleNoneSpec : ChangeSpec := { name := "cycleNone", fn := fun _ => fun
  | [d] => { results := [.lit (.bool true)], args := [d] }
  | _ => none }
def cycleNoneRow : OpenClaim := { program := "ytbdckmnppeglfaa", sum := "b134a39e5e8af13d29d96ec466c8c80fb18e40fae9f7d3cbbe3a748e38a1f4f3", func := "pangram/pangramlaw13.CycleNone", spec := "cycleNone", unfollowed := true, recurses := true, apart := false }
def CycleNoneSaid : Prop := cycleNoneRow.holds Try.pinned (OpenSpec.ofChange cycleNoneSpec)

/-- ITS FALSE NEIGHBOUR: 'it returns false'. Refute it at one input. -/
def cycleNoneWrong : ChangeSpec := { name := "cycleNone", fn := fun _ => fun
  | [d] => { results := [.lit (.bool false)], args := [d] }
  | _ => none }
def CycleNoneWrongFalsely : Prop := cycleNoneRow.holds Try.pinned (OpenSpec.ofChange cycleNoneWrong)

/- THE SECOND FORM. 'bulk': how many values and letters a reading holds, each counted each time it is reached (what is shared counts as often as it is met; a slice's spare places count too). A statement '..UptoSaid' is the law's where the arguments, and the package variables that the reading takes, are together of bulk at most 1048576: NARROWER than '..Said'. Prove '..Said' where nothing that the law and all that it calls make is longer than what came in: it says more and counts as full. Else prove '..UptoSaid'. A law counts once. -/
mutual
def uptoBulk {H : Type} : DataW H → Nat
  | .lit (.string bytes) => bytes.length + 1
  | .lit _ => 1
  | .nil => 1
  | .ptr d => uptoBulk d + 1
  | .slice elems spare => uptoBulkAll elems + uptoBulkAll spare + 1
  | .agg parts => uptoBulkAll parts + 1
  | .iface _ d => uptoBulk d + 1
  | .map entries => uptoBulkEntries entries + 1
  | .held _ => 1
def uptoBulkAll {H : Type} : List (DataW H) → Nat
  | [] => 0
  | d :: r => uptoBulk d + uptoBulkAll r
def uptoBulkEntries {H : Type} : List (Lit × DataW H) → Nat
  | [] => 0
  | x :: r => uptoBulkEntry x + uptoBulkEntries r
def uptoBulkEntry {H : Type} : Lit × DataW H → Nat
  | (.string bytes, d) => bytes.length + uptoBulk d + 1
  | (_, d) => uptoBulk d + 1
 end
def uptoSmall : (H : Type) → List (DataW H) → Bool := fun _ ds => decide (uptoBulkAll ds ≤ 1048576)
def OpenSpec.upto (s : _root_.Go.ChangeSpec) : _root_.Go.OpenSpec := { _root_.Go.OpenSpec.ofChange s with cond := some uptoSmall }

/-- 'pangramlaw11.GraphAdds', WHERE WHAT IT READS IS OF BULK AT MOST 1048576: true; the input reads as it did. -/
def graphAddsUptoRow : OpenClaim := { program := "ytbdckmnppeglfaa", sum := "b134a39e5e8af13d29d96ec466c8c80fb18e40fae9f7d3cbbe3a748e38a1f4f3", func := "pangram/pangramlaw11.GraphAdds", spec := "graphAdds", unfollowed := true, recurses := true, loops := true, apart := false, narrowed := true }
def GraphAddsUptoSaid : Prop := graphAddsUptoRow.holds Try.pinned (OpenSpec.upto graphAddsSpec)

/-- 'pangramlaw11.GraphTypes', WHERE WHAT IT READS IS OF BULK AT MOST 1048576: true; the input reads as it did. -/
def graphTypesUptoRow : OpenClaim := { program := "ytbdckmnppeglfaa", sum := "b134a39e5e8af13d29d96ec466c8c80fb18e40fae9f7d3cbbe3a748e38a1f4f3", func := "pangram/pangramlaw11.GraphTypes", spec := "graphTypes", unfollowed := true, recurses := true, loops := true, apart := false, narrowed := true }
def GraphTypesUptoSaid : Prop := graphTypesUptoRow.holds Try.pinned (OpenSpec.upto graphTypesSpec)

/-- 'pangramlaw11.GraphKeeps', WHERE WHAT IT READS IS OF BULK AT MOST 1048576: true; the input reads as it did. -/
def graphKeepsUptoRow : OpenClaim := { program := "ytbdckmnppeglfaa", sum := "b134a39e5e8af13d29d96ec466c8c80fb18e40fae9f7d3cbbe3a748e38a1f4f3", func := "pangram/pangramlaw11.GraphKeeps", spec := "graphKeeps", unfollowed := true, recurses := true, loops := true, apart := false, narrowed := true }
def GraphKeepsUptoSaid : Prop := graphKeepsUptoRow.holds Try.pinned (OpenSpec.upto graphKeepsSpec)

/-- 'pangramlaw11.GraphNone', WHERE WHAT IT READS IS OF BULK AT MOST 1048576: true; the input reads as it did. -/
def graphNoneUptoRow : OpenClaim := { program := "ytbdckmnppeglfaa", sum := "b134a39e5e8af13d29d96ec466c8c80fb18e40fae9f7d3cbbe3a748e38a1f4f3", func := "pangram/pangramlaw11.GraphNone", spec := "graphNone", unfollowed := true, recurses := true, loops := true, apart := false, narrowed := true }
def GraphNoneUptoSaid : Prop := graphNoneUptoRow.holds Try.pinned (OpenSpec.upto graphNoneSpec)

/-- 'pangramlaw12.UnifyFirst', WHERE WHAT IT READS IS OF BULK AT MOST 1048576: true; the input reads as it did. -/
def unifyFirstUptoRow : OpenClaim := { program := "ytbdckmnppeglfaa", sum := "b134a39e5e8af13d29d96ec466c8c80fb18e40fae9f7d3cbbe3a748e38a1f4f3", func := "pangram/pangramlaw12.UnifyFirst", spec := "unifyFirst", unfollowed := true, recurses := true, loops := true, apart := false, narrowed := true }
def UnifyFirstUptoSaid : Prop := unifyFirstUptoRow.holds Try.pinned (OpenSpec.upto unifyFirstSpec)

/-- 'pangramlaw12.UnifyNone', WHERE WHAT IT READS IS OF BULK AT MOST 1048576: true; the input reads as it did. -/
def unifyNoneUptoRow : OpenClaim := { program := "ytbdckmnppeglfaa", sum := "b134a39e5e8af13d29d96ec466c8c80fb18e40fae9f7d3cbbe3a748e38a1f4f3", func := "pangram/pangramlaw12.UnifyNone", spec := "unifyNone", unfollowed := true, recurses := true, loops := true, apart := false, narrowed := true }
def UnifyNoneUptoSaid : Prop := unifyNoneUptoRow.holds Try.pinned (OpenSpec.upto unifyNoneSpec)

/-- 'pangramlaw13.CycleNone', WHERE WHAT IT READS IS OF BULK AT MOST 1048576: true; the input reads as it did. -/
def cycleNoneUptoRow : OpenClaim := { program := "ytbdckmnppeglfaa", sum := "b134a39e5e8af13d29d96ec466c8c80fb18e40fae9f7d3cbbe3a748e38a1f4f3", func := "pangram/pangramlaw13.CycleNone", spec := "cycleNone", unfollowed := true, recurses := true, apart := false, narrowed := true }
def CycleNoneUptoSaid : Prop := cycleNoneUptoRow.holds Try.pinned (OpenSpec.upto cycleNoneSpec)

end Rows
end Go.Proofs.Ytbdckmnppeglfaa
