/-
  DERIVED. GIVEN WITH THE SEED: THE CARDS: each row of YtagdpohgicihnaaDoorRows.lean that lists a variable, with what it lists TIED to the program's text (the seventh form; the later family's looks); each row that meets fmt, with fmt's text TOLD by the authors' own Lean function (tested against real Go, not proved from fmt's source: count such statements apart). THE CARD IS WHAT COUNTS. Prove the row's statement (the work); the ties are given (YtagdpohgicihnaaDoorTie.lean); close each card by the builder's one call (the guide's Derived/Test/ToyasCard.lean, 'card_holds'). Laid BY PROGRAM, IN A SANDBOX (cutbox-door.mjs). By AI agents, Wed Nov 11 2026. No macro, syntax, notation, axiom, sorry.
-/
import Derived.Test.YtagdpohgicihnaaDoorRows
import GoSem.ClaimSeven
namespace Go.Proofs.YtagdpohgicihnaaDoor
namespace Rows

/-- THE TIED CARD OF 'pangramlaw03.TypesRight'. -/
def typesRightCard : Claim7 := { stood := { row := typesRightRow, standIns := [], harness := (true, "9493b7342b1fba3f1683d896e02ba8c903d0288f0a49ab98876aabf0b8137130"), looks := false }, kinds := [], alts := [], laidByText := true, laidKinds := [.data, .data, .data], laidTests := true, laidLooks := .later }
def TypesRightCardSaid : Prop := Claim7.holds Tryd.pinned (.plain (OpenSpec.ofChange typesRightSpec)) typesRightCard

/-- THE TIED CARD OF 'pangramlaw03.TypesPrint'. -/
def typesPrintCard : Claim7 := { stood := { row := typesPrintRow, standIns := [], harness := (true, "9493b7342b1fba3f1683d896e02ba8c903d0288f0a49ab98876aabf0b8137130"), looks := false }, kinds := [], alts := [], laidByText := true, laidKinds := [.data, .data, .data], laidTests := true, laidLooks := .later }
def TypesPrintCardSaid : Prop := Claim7.holds Tryd.pinned (.plain (OpenSpec.ofChange typesPrintSpec)) typesPrintCard

/-- THE TIED CARD OF 'pangramlaw03.TypesArrows'. -/
def typesArrowsCard : Claim7 := { stood := { row := typesArrowsRow, standIns := [], harness := (true, "9493b7342b1fba3f1683d896e02ba8c903d0288f0a49ab98876aabf0b8137130"), looks := false }, kinds := [], alts := [], laidByText := true, laidKinds := [.data, .data, .data], laidTests := true, laidLooks := .later }
def TypesArrowsCardSaid : Prop := Claim7.holds Tryd.pinned (.plain (OpenSpec.ofChange typesArrowsSpec)) typesArrowsCard

/-- THE TIED CARD OF 'pangramlaw03.TypesCanon'. -/
def typesCanonCard : Claim7 := { stood := { row := typesCanonRow, standIns := [], harness := (true, "9493b7342b1fba3f1683d896e02ba8c903d0288f0a49ab98876aabf0b8137130"), looks := false }, kinds := [], alts := [], laidByText := true, laidKinds := [.data, .data, .data], laidTests := true, laidLooks := .later }
def TypesCanonCardSaid : Prop := Claim7.holds Tryd.pinned (.plain (OpenSpec.ofChange typesCanonSpec)) typesCanonCard

/-- THE TIED CARD OF 'pangramlaw04.SignatureReads'. -/
def signatureReadsCard : Claim7 := { stood := { row := signatureReadsRow, standIns := [], harness := (true, "9493b7342b1fba3f1683d896e02ba8c903d0288f0a49ab98876aabf0b8137130"), looks := false }, kinds := [], alts := [], laidByText := true, laidKinds := [.data, .data, .data], laidTests := true, laidLooks := .later }
def SignatureReadsCardSaid : Prop := Claim7.holds Tryd.pinned (.plain (OpenSpec.ofChange signatureReadsSpec)) signatureReadsCard

/-- THE TIED CARD OF 'pangramlaw04.SignatureTokens'. -/
def signatureTokensCard : Claim7 := { stood := { row := signatureTokensRow, standIns := [], harness := (true, "9493b7342b1fba3f1683d896e02ba8c903d0288f0a49ab98876aabf0b8137130"), looks := false }, kinds := [], alts := [], laidByText := true, laidKinds := [.data, .data, .data], laidTests := true, laidLooks := .later }
def SignatureTokensCardSaid : Prop := Claim7.holds Tryd.pinned (.plain (OpenSpec.ofChange signatureTokensSpec)) signatureTokensCard

/-- THE TIED CARD OF 'pangramlaw04.SignatureLevels'. -/
def signatureLevelsCard : Claim7 := { stood := { row := signatureLevelsRow, standIns := [], harness := (true, "9493b7342b1fba3f1683d896e02ba8c903d0288f0a49ab98876aabf0b8137130"), looks := false }, kinds := [], alts := [], laidByText := true, laidKinds := [.data, .data, .data], laidTests := true, laidLooks := .later }
def SignatureLevelsCardSaid : Prop := Claim7.holds Tryd.pinned (.plain (OpenSpec.ofChange signatureLevelsSpec)) signatureLevelsCard

/-- THE SECOND FORM's CARD OF 'pangramlaw03.TypesRight'. -/
def typesRightUptoCard : Claim7 := { stood := { row := typesRightUptoRow, standIns := [], harness := (true, "9493b7342b1fba3f1683d896e02ba8c903d0288f0a49ab98876aabf0b8137130"), looks := false }, kinds := [], alts := [], laidByText := true, laidKinds := [.data, .data, .data], laidTests := true, laidLooks := .later }
def TypesRightUptoCardSaid : Prop := Claim7.holds Tryd.pinned (.plain (OpenSpec.upto typesRightSpec)) typesRightUptoCard

/-- THE SECOND FORM's CARD OF 'pangramlaw03.TypesPrint'. -/
def typesPrintUptoCard : Claim7 := { stood := { row := typesPrintUptoRow, standIns := [], harness := (true, "9493b7342b1fba3f1683d896e02ba8c903d0288f0a49ab98876aabf0b8137130"), looks := false }, kinds := [], alts := [], laidByText := true, laidKinds := [.data, .data, .data], laidTests := true, laidLooks := .later }
def TypesPrintUptoCardSaid : Prop := Claim7.holds Tryd.pinned (.plain (OpenSpec.upto typesPrintSpec)) typesPrintUptoCard

/-- THE SECOND FORM's CARD OF 'pangramlaw03.TypesArrows'. -/
def typesArrowsUptoCard : Claim7 := { stood := { row := typesArrowsUptoRow, standIns := [], harness := (true, "9493b7342b1fba3f1683d896e02ba8c903d0288f0a49ab98876aabf0b8137130"), looks := false }, kinds := [], alts := [], laidByText := true, laidKinds := [.data, .data, .data], laidTests := true, laidLooks := .later }
def TypesArrowsUptoCardSaid : Prop := Claim7.holds Tryd.pinned (.plain (OpenSpec.upto typesArrowsSpec)) typesArrowsUptoCard

/-- THE SECOND FORM's CARD OF 'pangramlaw03.TypesCanon'. -/
def typesCanonUptoCard : Claim7 := { stood := { row := typesCanonUptoRow, standIns := [], harness := (true, "9493b7342b1fba3f1683d896e02ba8c903d0288f0a49ab98876aabf0b8137130"), looks := false }, kinds := [], alts := [], laidByText := true, laidKinds := [.data, .data, .data], laidTests := true, laidLooks := .later }
def TypesCanonUptoCardSaid : Prop := Claim7.holds Tryd.pinned (.plain (OpenSpec.upto typesCanonSpec)) typesCanonUptoCard

/-- THE SECOND FORM's CARD OF 'pangramlaw04.SignatureReads'. -/
def signatureReadsUptoCard : Claim7 := { stood := { row := signatureReadsUptoRow, standIns := [], harness := (true, "9493b7342b1fba3f1683d896e02ba8c903d0288f0a49ab98876aabf0b8137130"), looks := false }, kinds := [], alts := [], laidByText := true, laidKinds := [.data, .data, .data], laidTests := true, laidLooks := .later }
def SignatureReadsUptoCardSaid : Prop := Claim7.holds Tryd.pinned (.plain (OpenSpec.upto signatureReadsSpec)) signatureReadsUptoCard

/-- THE SECOND FORM's CARD OF 'pangramlaw04.SignatureTokens'. -/
def signatureTokensUptoCard : Claim7 := { stood := { row := signatureTokensUptoRow, standIns := [], harness := (true, "9493b7342b1fba3f1683d896e02ba8c903d0288f0a49ab98876aabf0b8137130"), looks := false }, kinds := [], alts := [], laidByText := true, laidKinds := [.data, .data, .data], laidTests := true, laidLooks := .later }
def SignatureTokensUptoCardSaid : Prop := Claim7.holds Tryd.pinned (.plain (OpenSpec.upto signatureTokensSpec)) signatureTokensUptoCard

/-- THE SECOND FORM's CARD OF 'pangramlaw04.SignatureLevels'. -/
def signatureLevelsUptoCard : Claim7 := { stood := { row := signatureLevelsUptoRow, standIns := [], harness := (true, "9493b7342b1fba3f1683d896e02ba8c903d0288f0a49ab98876aabf0b8137130"), looks := false }, kinds := [], alts := [], laidByText := true, laidKinds := [.data, .data, .data], laidTests := true, laidLooks := .later }
def SignatureLevelsUptoCardSaid : Prop := Claim7.holds Tryd.pinned (.plain (OpenSpec.upto signatureLevelsSpec)) signatureLevelsUptoCard
end Rows
end Go.Proofs.YtagdpohgicihnaaDoor
