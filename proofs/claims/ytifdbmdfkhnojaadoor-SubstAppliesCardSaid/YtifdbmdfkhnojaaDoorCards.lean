/-
  DERIVED. GIVEN WITH THE SEED: THE CARDS: each row of YtifdbmdfkhnojaaDoorRows.lean that lists a variable, with what it lists TIED to the program's text (the seventh form; the later family's looks); each row that meets fmt, with fmt's text TOLD by the authors' own Lean function (tested against real Go, not proved from fmt's source: count such statements apart). THE CARD IS WHAT COUNTS. Prove the row's statement (the work); the ties are given (YtifdbmdfkhnojaaDoorTie.lean); close each card by the builder's one call (the guide's Derived/Test/ToyasCard.lean, 'card_holds'). Laid BY PROGRAM, IN A SANDBOX (cutbox-door.mjs). By AI agents, Wed Nov 11 2026. No macro, syntax, notation, axiom, sorry.
-/
import Derived.Test.YtifdbmdfkhnojaaDoorRows
import GoSem.ClaimSeven
namespace Go.Proofs.YtifdbmdfkhnojaaDoor
namespace Rows

/-- THE TIED CARD OF 'pangramlaw10.SubstApplies'. -/
def substAppliesCard : Claim7 := { stood := { row := substAppliesRow, standIns := [], harness := (true, "0dc0cd25f4942e0aebe660fb7e9b624573928cf77ba240ae7cc243652e1ae2d5"), looks := false }, kinds := [], alts := [], laidByText := true, laidKinds := [.data, .data, .data], laidTests := true, laidLooks := .later }
def SubstAppliesCardSaid : Prop := Claim7.holds Tryd.pinned (.plain (OpenSpec.ofChange substAppliesSpec)) substAppliesCard

/-- THE TIED CARD OF 'pangramlaw10.SubstThen'. -/
def substThenCard : Claim7 := { stood := { row := substThenRow, standIns := [], harness := (true, "0dc0cd25f4942e0aebe660fb7e9b624573928cf77ba240ae7cc243652e1ae2d5"), looks := false }, kinds := [], alts := [], laidByText := true, laidKinds := [.data, .data, .data], laidTests := true, laidLooks := .later }
def SubstThenCardSaid : Prop := Claim7.holds Tryd.pinned (.plain (OpenSpec.ofChange substThenSpec)) substThenCard

/-- THE TIED CARD OF 'pangramlaw10.SubstSolves'. -/
def substSolvesCard : Claim7 := { stood := { row := substSolvesRow, standIns := [], harness := (true, "0dc0cd25f4942e0aebe660fb7e9b624573928cf77ba240ae7cc243652e1ae2d5"), looks := false }, kinds := [], alts := [], laidByText := true, laidKinds := [.data, .data, .data], laidTests := true, laidLooks := .later }
def SubstSolvesCardSaid : Prop := Claim7.holds Tryd.pinned (.plain (OpenSpec.ofChange substSolvesSpec)) substSolvesCard

/-- THE TIED CARD OF 'pangramlaw10.SubstRules'. -/
def substRulesCard : Claim7 := { stood := { row := substRulesRow, standIns := [], harness := (true, "0dc0cd25f4942e0aebe660fb7e9b624573928cf77ba240ae7cc243652e1ae2d5"), looks := false }, kinds := [], alts := [], laidByText := true, laidKinds := [.data, .data, .data], laidTests := true, laidLooks := .later }
def SubstRulesCardSaid : Prop := Claim7.holds Tryd.pinned (.plain (OpenSpec.ofChange substRulesSpec)) substRulesCard

/-- THE TIED CARD OF 'pangramlaw10.SubstAlike'. -/
def substAlikeCard : Claim7 := { stood := { row := substAlikeRow, standIns := [], harness := (true, "0dc0cd25f4942e0aebe660fb7e9b624573928cf77ba240ae7cc243652e1ae2d5"), looks := false }, kinds := [], alts := [], laidByText := true, laidKinds := [.data, .data, .data], laidTests := true, laidLooks := .later }
def SubstAlikeCardSaid : Prop := Claim7.holds Tryd.pinned (.plain (OpenSpec.ofChange substAlikeSpec)) substAlikeCard

/-- THE SECOND FORM's CARD OF 'pangramlaw10.SubstApplies'. -/
def substAppliesUptoCard : Claim7 := { stood := { row := substAppliesUptoRow, standIns := [], harness := (true, "0dc0cd25f4942e0aebe660fb7e9b624573928cf77ba240ae7cc243652e1ae2d5"), looks := false }, kinds := [], alts := [], laidByText := true, laidKinds := [.data, .data, .data], laidTests := true, laidLooks := .later }
def SubstAppliesUptoCardSaid : Prop := Claim7.holds Tryd.pinned (.plain (OpenSpec.upto substAppliesSpec)) substAppliesUptoCard

/-- THE SECOND FORM's CARD OF 'pangramlaw10.SubstThen'. -/
def substThenUptoCard : Claim7 := { stood := { row := substThenUptoRow, standIns := [], harness := (true, "0dc0cd25f4942e0aebe660fb7e9b624573928cf77ba240ae7cc243652e1ae2d5"), looks := false }, kinds := [], alts := [], laidByText := true, laidKinds := [.data, .data, .data], laidTests := true, laidLooks := .later }
def SubstThenUptoCardSaid : Prop := Claim7.holds Tryd.pinned (.plain (OpenSpec.upto substThenSpec)) substThenUptoCard

/-- THE SECOND FORM's CARD OF 'pangramlaw10.SubstSolves'. -/
def substSolvesUptoCard : Claim7 := { stood := { row := substSolvesUptoRow, standIns := [], harness := (true, "0dc0cd25f4942e0aebe660fb7e9b624573928cf77ba240ae7cc243652e1ae2d5"), looks := false }, kinds := [], alts := [], laidByText := true, laidKinds := [.data, .data, .data], laidTests := true, laidLooks := .later }
def SubstSolvesUptoCardSaid : Prop := Claim7.holds Tryd.pinned (.plain (OpenSpec.upto substSolvesSpec)) substSolvesUptoCard

/-- THE SECOND FORM's CARD OF 'pangramlaw10.SubstRules'. -/
def substRulesUptoCard : Claim7 := { stood := { row := substRulesUptoRow, standIns := [], harness := (true, "0dc0cd25f4942e0aebe660fb7e9b624573928cf77ba240ae7cc243652e1ae2d5"), looks := false }, kinds := [], alts := [], laidByText := true, laidKinds := [.data, .data, .data], laidTests := true, laidLooks := .later }
def SubstRulesUptoCardSaid : Prop := Claim7.holds Tryd.pinned (.plain (OpenSpec.upto substRulesSpec)) substRulesUptoCard

/-- THE SECOND FORM's CARD OF 'pangramlaw10.SubstAlike'. -/
def substAlikeUptoCard : Claim7 := { stood := { row := substAlikeUptoRow, standIns := [], harness := (true, "0dc0cd25f4942e0aebe660fb7e9b624573928cf77ba240ae7cc243652e1ae2d5"), looks := false }, kinds := [], alts := [], laidByText := true, laidKinds := [.data, .data, .data], laidTests := true, laidLooks := .later }
def SubstAlikeUptoCardSaid : Prop := Claim7.holds Tryd.pinned (.plain (OpenSpec.upto substAlikeSpec)) substAlikeUptoCard
end Rows
end Go.Proofs.YtifdbmdfkhnojaaDoor
