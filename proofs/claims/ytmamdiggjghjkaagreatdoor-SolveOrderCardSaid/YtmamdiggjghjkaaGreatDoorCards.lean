/-
  DERIVED. GIVEN WITH THE SEED: THE CARDS: each row of YtmamdiggjghjkaaGreatDoorRows.lean that lists a variable, with what it lists TIED to the program's text (the seventh form; the later family's looks); each row that meets fmt, with fmt's text TOLD by the authors' own Lean function (tested against real Go, not proved from fmt's source: count such statements apart). THE CARD IS WHAT COUNTS. Prove the row's statement (the work); the ties are given (YtmamdiggjghjkaaGreatDoorTie.lean); close each card by the builder's one call (the guide's Derived/Test/ToyasCard.lean, 'card_holds'). Laid BY PROGRAM, IN A SANDBOX (cutbox-door.mjs). By AI agents, Wed Nov 11 2026. No macro, syntax, notation, axiom, sorry.
-/
import Derived.Test.YtmamdiggjghjkaaGreatDoorRows
import GoSem.ClaimSeven
namespace Go.Proofs.YtmamdiggjghjkaaGreatDoor
namespace Rows

/-- THE TIED CARD OF 'pangramlaw14.SolveSolves'. -/
def solveSolvesCard : Claim7 := { stood := { row := solveSolvesRow, standIns := [], harness := (true, "a9fa06887d4350700efd41cfa6fa6fc539070aa8a0abaa8f8b3f92dd266f3079"), looks := false }, kinds := [], alts := [], laidByText := true, laidKinds := [.data, .data, .data], laidTests := true, laidLooks := .later }
def SolveSolvesCardSaid : Prop := Claim7.holds Tryz.pinned (.plain (OpenSpec.ofChange solveSolvesSpec)) solveSolvesCard

/-- THE TIED CARD OF 'pangramlaw14.SolveRules'. -/
def solveRulesCard : Claim7 := { stood := { row := solveRulesRow, standIns := [], harness := (true, "a9fa06887d4350700efd41cfa6fa6fc539070aa8a0abaa8f8b3f92dd266f3079"), looks := false }, kinds := [], alts := [], laidByText := true, laidKinds := [.data, .data, .data], laidTests := true, laidLooks := .later }
def SolveRulesCardSaid : Prop := Claim7.holds Tryz.pinned (.plain (OpenSpec.ofChange solveRulesSpec)) solveRulesCard

/-- THE TIED CARD OF 'pangramlaw14.SolveMost'. -/
def solveMostCard : Claim7 := { stood := { row := solveMostRow, standIns := [], harness := (true, "a9fa06887d4350700efd41cfa6fa6fc539070aa8a0abaa8f8b3f92dd266f3079"), looks := false }, kinds := [], alts := [], laidByText := true, laidKinds := [.data, .data, .data], laidTests := true, laidLooks := .later }
def SolveMostCardSaid : Prop := Claim7.holds Tryz.pinned (.plain (OpenSpec.ofChange solveMostSpec)) solveMostCard

/-- THE TIED CARD OF 'pangramlaw14.SolveMade'. -/
def solveMadeCard : Claim7 := { stood := { row := solveMadeRow, standIns := [], harness := (true, "a9fa06887d4350700efd41cfa6fa6fc539070aa8a0abaa8f8b3f92dd266f3079"), looks := false }, kinds := [], alts := [], laidByText := true, laidKinds := [.data, .data, .data], laidTests := true, laidLooks := .later }
def SolveMadeCardSaid : Prop := Claim7.holds Tryz.pinned (.plain (OpenSpec.ofChange solveMadeSpec)) solveMadeCard

/-- THE TIED CARD OF 'pangramlaw14.SolveOrder'. -/
def solveOrderCard : Claim7 := { stood := { row := solveOrderRow, standIns := [], harness := (true, "a9fa06887d4350700efd41cfa6fa6fc539070aa8a0abaa8f8b3f92dd266f3079"), looks := false }, kinds := [], alts := [], laidByText := true, laidKinds := [.data, .data, .data], laidTests := true, laidLooks := .later }
def SolveOrderCardSaid : Prop := Claim7.holds Tryz.pinned (.plain (OpenSpec.ofChange solveOrderSpec)) solveOrderCard

/-- THE SECOND FORM's CARD OF 'pangramlaw14.SolveSolves'. -/
def solveSolvesUptoCard : Claim7 := { stood := { row := solveSolvesUptoRow, standIns := [], harness := (true, "a9fa06887d4350700efd41cfa6fa6fc539070aa8a0abaa8f8b3f92dd266f3079"), looks := false }, kinds := [], alts := [], laidByText := true, laidKinds := [.data, .data, .data], laidTests := true, laidLooks := .later }
def SolveSolvesUptoCardSaid : Prop := Claim7.holds Tryz.pinned (.plain (OpenSpec.upto solveSolvesSpec)) solveSolvesUptoCard

/-- THE SECOND FORM's CARD OF 'pangramlaw14.SolveRules'. -/
def solveRulesUptoCard : Claim7 := { stood := { row := solveRulesUptoRow, standIns := [], harness := (true, "a9fa06887d4350700efd41cfa6fa6fc539070aa8a0abaa8f8b3f92dd266f3079"), looks := false }, kinds := [], alts := [], laidByText := true, laidKinds := [.data, .data, .data], laidTests := true, laidLooks := .later }
def SolveRulesUptoCardSaid : Prop := Claim7.holds Tryz.pinned (.plain (OpenSpec.upto solveRulesSpec)) solveRulesUptoCard

/-- THE SECOND FORM's CARD OF 'pangramlaw14.SolveMost'. -/
def solveMostUptoCard : Claim7 := { stood := { row := solveMostUptoRow, standIns := [], harness := (true, "a9fa06887d4350700efd41cfa6fa6fc539070aa8a0abaa8f8b3f92dd266f3079"), looks := false }, kinds := [], alts := [], laidByText := true, laidKinds := [.data, .data, .data], laidTests := true, laidLooks := .later }
def SolveMostUptoCardSaid : Prop := Claim7.holds Tryz.pinned (.plain (OpenSpec.upto solveMostSpec)) solveMostUptoCard

/-- THE SECOND FORM's CARD OF 'pangramlaw14.SolveMade'. -/
def solveMadeUptoCard : Claim7 := { stood := { row := solveMadeUptoRow, standIns := [], harness := (true, "a9fa06887d4350700efd41cfa6fa6fc539070aa8a0abaa8f8b3f92dd266f3079"), looks := false }, kinds := [], alts := [], laidByText := true, laidKinds := [.data, .data, .data], laidTests := true, laidLooks := .later }
def SolveMadeUptoCardSaid : Prop := Claim7.holds Tryz.pinned (.plain (OpenSpec.upto solveMadeSpec)) solveMadeUptoCard

/-- THE SECOND FORM's CARD OF 'pangramlaw14.SolveOrder'. -/
def solveOrderUptoCard : Claim7 := { stood := { row := solveOrderUptoRow, standIns := [], harness := (true, "a9fa06887d4350700efd41cfa6fa6fc539070aa8a0abaa8f8b3f92dd266f3079"), looks := false }, kinds := [], alts := [], laidByText := true, laidKinds := [.data, .data, .data], laidTests := true, laidLooks := .later }
def SolveOrderUptoCardSaid : Prop := Claim7.holds Tryz.pinned (.plain (OpenSpec.upto solveOrderSpec)) solveOrderUptoCard
end Rows
end Go.Proofs.YtmamdiggjghjkaaGreatDoor
