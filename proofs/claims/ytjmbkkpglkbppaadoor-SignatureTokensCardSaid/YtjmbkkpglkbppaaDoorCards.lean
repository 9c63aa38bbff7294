/-
  DERIVED. GIVEN WITH THE SEED: THE CARDS: each row of YtjmbkkpglkbppaaDoorRows.lean that lists a variable, with what it lists TIED to the program's text (the seventh form; the later family's looks); each row that meets fmt, with fmt's text TOLD by the authors' own Lean function (tested against real Go, not proved from fmt's source: count such statements apart). THE CARD IS WHAT COUNTS. Prove the row's statement (the work); the ties are given (YtjmbkkpglkbppaaDoorTie.lean); close each card by the builder's one call (the guide's Derived/Test/ToyasCard.lean, 'card_holds'). Laid BY PROGRAM, IN A SANDBOX (cutbox-door.mjs). By AI agents, Wed Nov 11 2026. No macro, syntax, notation, axiom, sorry.
-/
import Derived.Test.YtjmbkkpglkbppaaDoorRows
import GoSem.ClaimSeven
namespace Go.Proofs.YtjmbkkpglkbppaaDoor
namespace Rows

/-- THE TIED CARD OF 'pangramlaw04.SignatureReads'. -/
def signatureReadsCard : Claim7 := { stood := { row := signatureReadsRow, standIns := [], harness := (true, "36437f027cafa5492e8ce7d4a486d72325fa1c15ad36c6f970440d7b66ff4939"), looks := false }, kinds := [], alts := [], laidByText := true, laidKinds := [.data, .data, .data], laidTests := true, laidLooks := .later }
def SignatureReadsCardSaid : Prop := Claim7.holds Tryd.pinned (.plain (OpenSpec.ofChange signatureReadsSpec)) signatureReadsCard

/-- THE TIED CARD OF 'pangramlaw04.SignatureTokens'. -/
def signatureTokensCard : Claim7 := { stood := { row := signatureTokensRow, standIns := [], harness := (true, "36437f027cafa5492e8ce7d4a486d72325fa1c15ad36c6f970440d7b66ff4939"), looks := false }, kinds := [], alts := [], laidByText := true, laidKinds := [.data, .data, .data], laidTests := true, laidLooks := .later }
def SignatureTokensCardSaid : Prop := Claim7.holds Tryd.pinned (.plain (OpenSpec.ofChange signatureTokensSpec)) signatureTokensCard

/-- THE SECOND FORM's CARD OF 'pangramlaw04.SignatureReads'. -/
def signatureReadsUptoCard : Claim7 := { stood := { row := signatureReadsUptoRow, standIns := [], harness := (true, "36437f027cafa5492e8ce7d4a486d72325fa1c15ad36c6f970440d7b66ff4939"), looks := false }, kinds := [], alts := [], laidByText := true, laidKinds := [.data, .data, .data], laidTests := true, laidLooks := .later }
def SignatureReadsUptoCardSaid : Prop := Claim7.holds Tryd.pinned (.plain (OpenSpec.upto signatureReadsSpec)) signatureReadsUptoCard

/-- THE SECOND FORM's CARD OF 'pangramlaw04.SignatureTokens'. -/
def signatureTokensUptoCard : Claim7 := { stood := { row := signatureTokensUptoRow, standIns := [], harness := (true, "36437f027cafa5492e8ce7d4a486d72325fa1c15ad36c6f970440d7b66ff4939"), looks := false }, kinds := [], alts := [], laidByText := true, laidKinds := [.data, .data, .data], laidTests := true, laidLooks := .later }
def SignatureTokensUptoCardSaid : Prop := Claim7.holds Tryd.pinned (.plain (OpenSpec.upto signatureTokensSpec)) signatureTokensUptoCard
end Rows
end Go.Proofs.YtjmbkkpglkbppaaDoor
