/-
  DERIVED. GIVEN WITH THE SEED: THE CARDS: each row of YtkgjojcollignaaDoorRows.lean that lists a variable, with what it lists TIED to the program's text (the seventh form; the later family's looks); each row that meets fmt, with fmt's text TOLD by the authors' own Lean function (tested against real Go, not proved from fmt's source: count such statements apart). THE CARD IS WHAT COUNTS. Prove the row's statement (the work); the ties are given (YtkgjojcollignaaDoorTie.lean); close each card by the builder's one call (the guide's Derived/Test/ToyasCard.lean, 'card_holds'). Laid BY PROGRAM, IN A SANDBOX (cutbox-door.mjs). By AI agents, Wed Nov 11 2026. No macro, syntax, notation, axiom, sorry.
-/
import Derived.Test.YtkgjojcollignaaDoorRows
import GoSem.ClaimSeven
namespace Go.Proofs.YtkgjojcollignaaDoor
namespace Rows

/-- THE TIED CARD OF 'pangramlaw04.SignatureReads'. -/
def signatureReadsCard : Claim7 := { stood := { row := signatureReadsRow, standIns := [], harness := (true, "08b4cd3a0b85f0bb884b4025598601984955cc4fcf5ad4dcc31ce677c569fb47"), looks := true }, kinds := [], alts := [], laidByText := true, laidKinds := [.data, .data, .data], laidTests := true, laidLooks := .later }
def SignatureReadsCardSaid : Prop := Claim7.holds Tryd.pinned (.plain (OpenSpec.ofChange signatureReadsSpec)) signatureReadsCard

/-- THE TIED CARD OF 'pangramlaw04.SignatureTokens'. -/
def signatureTokensCard : Claim7 := { stood := { row := signatureTokensRow, standIns := [], harness := (true, "08b4cd3a0b85f0bb884b4025598601984955cc4fcf5ad4dcc31ce677c569fb47"), looks := true }, kinds := [], alts := [], laidByText := true, laidKinds := [.data, .data, .data], laidTests := true, laidLooks := .later }
def SignatureTokensCardSaid : Prop := Claim7.holds Tryd.pinned (.plain (OpenSpec.ofChange signatureTokensSpec)) signatureTokensCard

/-- THE TIED CARD OF 'pangramlaw04.SignatureLevels'. -/
def signatureLevelsCard : Claim7 := { stood := { row := signatureLevelsRow, standIns := [], harness := (true, "08b4cd3a0b85f0bb884b4025598601984955cc4fcf5ad4dcc31ce677c569fb47"), looks := true }, kinds := [], alts := [], laidByText := true, laidKinds := [.data, .data, .data], laidTests := true, laidLooks := .later }
def SignatureLevelsCardSaid : Prop := Claim7.holds Tryd.pinned (.plain (OpenSpec.ofChange signatureLevelsSpec)) signatureLevelsCard

/-- THE TIED CARD OF 'pangramlaw06.ParseTerms'. -/
def parseTermsCard : Claim7 := { stood := { row := parseTermsRow, standIns := [], harness := (true, "08b4cd3a0b85f0bb884b4025598601984955cc4fcf5ad4dcc31ce677c569fb47"), looks := true }, kinds := [], alts := [], laidByText := true, laidKinds := [.data, .data, .data, .sentinel, .sentinel], laidTests := true, laidLooks := .later }
def ParseTermsCardSaid : Prop := Claim7.holds Tryd.pinned (.plain (OpenSpec.ofChange parseTermsSpec)) parseTermsCard

/-- THE TIED CARD OF 'pangramlaw06.ParseLanguage'. -/
def parseLanguageCard : Claim7 := { stood := { row := parseLanguageRow, standIns := [], harness := (true, "08b4cd3a0b85f0bb884b4025598601984955cc4fcf5ad4dcc31ce677c569fb47"), looks := true }, kinds := [], alts := [], laidByText := true, laidKinds := [.data, .data, .data, .sentinel, .sentinel], laidTests := true, laidLooks := .later }
def ParseLanguageCardSaid : Prop := Claim7.holds Tryd.pinned (.plain (OpenSpec.ofChange parseLanguageSpec)) parseLanguageCard

/-- THE TIED CARD OF 'pangramlaw06.ParseLevels'. -/
def parseLevelsCard : Claim7 := { stood := { row := parseLevelsRow, standIns := [], harness := (true, "08b4cd3a0b85f0bb884b4025598601984955cc4fcf5ad4dcc31ce677c569fb47"), looks := true }, kinds := [], alts := [], laidByText := true, laidKinds := [.data, .data, .data, .sentinel, .sentinel], laidTests := true, laidLooks := .later }
def ParseLevelsCardSaid : Prop := Claim7.holds Tryd.pinned (.plain (OpenSpec.ofChange parseLevelsSpec)) parseLevelsCard

/-- THE SECOND FORM's CARD OF 'pangramlaw04.SignatureReads'. -/
def signatureReadsUptoCard : Claim7 := { stood := { row := signatureReadsUptoRow, standIns := [], harness := (true, "08b4cd3a0b85f0bb884b4025598601984955cc4fcf5ad4dcc31ce677c569fb47"), looks := true }, kinds := [], alts := [], laidByText := true, laidKinds := [.data, .data, .data], laidTests := true, laidLooks := .later }
def SignatureReadsUptoCardSaid : Prop := Claim7.holds Tryd.pinned (.plain (OpenSpec.upto signatureReadsSpec)) signatureReadsUptoCard

/-- THE SECOND FORM's CARD OF 'pangramlaw04.SignatureTokens'. -/
def signatureTokensUptoCard : Claim7 := { stood := { row := signatureTokensUptoRow, standIns := [], harness := (true, "08b4cd3a0b85f0bb884b4025598601984955cc4fcf5ad4dcc31ce677c569fb47"), looks := true }, kinds := [], alts := [], laidByText := true, laidKinds := [.data, .data, .data], laidTests := true, laidLooks := .later }
def SignatureTokensUptoCardSaid : Prop := Claim7.holds Tryd.pinned (.plain (OpenSpec.upto signatureTokensSpec)) signatureTokensUptoCard

/-- THE SECOND FORM's CARD OF 'pangramlaw04.SignatureLevels'. -/
def signatureLevelsUptoCard : Claim7 := { stood := { row := signatureLevelsUptoRow, standIns := [], harness := (true, "08b4cd3a0b85f0bb884b4025598601984955cc4fcf5ad4dcc31ce677c569fb47"), looks := true }, kinds := [], alts := [], laidByText := true, laidKinds := [.data, .data, .data], laidTests := true, laidLooks := .later }
def SignatureLevelsUptoCardSaid : Prop := Claim7.holds Tryd.pinned (.plain (OpenSpec.upto signatureLevelsSpec)) signatureLevelsUptoCard

/-- THE SECOND FORM's CARD OF 'pangramlaw06.ParseTerms'. -/
def parseTermsUptoCard : Claim7 := { stood := { row := parseTermsUptoRow, standIns := [], harness := (true, "08b4cd3a0b85f0bb884b4025598601984955cc4fcf5ad4dcc31ce677c569fb47"), looks := true }, kinds := [], alts := [], laidByText := true, laidKinds := [.data, .data, .data, .sentinel, .sentinel], laidTests := true, laidLooks := .later }
def ParseTermsUptoCardSaid : Prop := Claim7.holds Tryd.pinned (.plain (OpenSpec.upto parseTermsSpec)) parseTermsUptoCard

/-- THE SECOND FORM's CARD OF 'pangramlaw06.ParseLanguage'. -/
def parseLanguageUptoCard : Claim7 := { stood := { row := parseLanguageUptoRow, standIns := [], harness := (true, "08b4cd3a0b85f0bb884b4025598601984955cc4fcf5ad4dcc31ce677c569fb47"), looks := true }, kinds := [], alts := [], laidByText := true, laidKinds := [.data, .data, .data, .sentinel, .sentinel], laidTests := true, laidLooks := .later }
def ParseLanguageUptoCardSaid : Prop := Claim7.holds Tryd.pinned (.plain (OpenSpec.upto parseLanguageSpec)) parseLanguageUptoCard

/-- THE SECOND FORM's CARD OF 'pangramlaw06.ParseLevels'. -/
def parseLevelsUptoCard : Claim7 := { stood := { row := parseLevelsUptoRow, standIns := [], harness := (true, "08b4cd3a0b85f0bb884b4025598601984955cc4fcf5ad4dcc31ce677c569fb47"), looks := true }, kinds := [], alts := [], laidByText := true, laidKinds := [.data, .data, .data, .sentinel, .sentinel], laidTests := true, laidLooks := .later }
def ParseLevelsUptoCardSaid : Prop := Claim7.holds Tryd.pinned (.plain (OpenSpec.upto parseLevelsSpec)) parseLevelsUptoCard
end Rows
end Go.Proofs.YtkgjojcollignaaDoor
