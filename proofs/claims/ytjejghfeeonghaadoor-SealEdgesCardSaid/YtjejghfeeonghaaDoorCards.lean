/-
  DERIVED. GIVEN WITH THE SEED: THE CARDS: each row of YtjejghfeeonghaaDoorRows.lean that lists a variable, with what it lists TIED to the program's text (the seventh form; the later family's looks); each row that meets fmt, with fmt's text TOLD by the authors' own Lean function (tested against real Go, not proved from fmt's source: count such statements apart). THE CARD IS WHAT COUNTS. Prove the row's statement (the work); the ties are given (YtjejghfeeonghaaDoorTie.lean); close each card by the builder's one call (the guide's Derived/Test/ToyasCard.lean, 'card_holds'). Laid BY PROGRAM, IN A SANDBOX (cutbox-door.mjs). By AI agents, Wed Nov 11 2026. No macro, syntax, notation, axiom, sorry.
-/
import Derived.Test.YtjejghfeeonghaaDoorRows
import GoSem.ClaimSeven
namespace Go.Proofs.YtjejghfeeonghaaDoor
namespace Rows

/-- THE TIED CARD OF 'zoetropelaw21.PlateShows'. -/
def plateShowsCard : Claim7 := { stood := { row := plateShowsRow, standIns := [], harness := (true, "3d181abda6a467bafd3ad764615526846801818519d59a5b2c3f60b70ba2b1d7"), looks := false }, kinds := [], alts := [], laidByText := true, laidKinds := [.data, .data, .data], laidTests := true, laidLooks := .later }
def PlateShowsCardSaid : Prop := Claim7.holds Tryd.pinned (.plain (OpenSpec.ofChange plateShowsSpec)) plateShowsCard

/-- THE TIED CARD OF 'zoetropelaw21.PlateFiles'. -/
def plateFilesCard : Claim7 := { stood := { row := plateFilesRow, standIns := [], harness := (true, "3d181abda6a467bafd3ad764615526846801818519d59a5b2c3f60b70ba2b1d7"), looks := false }, kinds := [], alts := [], laidByText := true, laidKinds := [.data, .data, .data], laidTests := true, laidLooks := .later }
def PlateFilesCardSaid : Prop := Claim7.holds Tryd.pinned (.plain (OpenSpec.ofChange plateFilesSpec)) plateFilesCard

/-- THE TIED CARD OF 'zoetropelaw21.PlateBack'. -/
def plateBackCard : Claim7 := { stood := { row := plateBackRow, standIns := [], harness := (true, "3d181abda6a467bafd3ad764615526846801818519d59a5b2c3f60b70ba2b1d7"), looks := false }, kinds := [], alts := [], laidByText := true, laidKinds := [.data, .data, .data], laidTests := true, laidLooks := .later }
def PlateBackCardSaid : Prop := Claim7.holds Tryd.pinned (.plain (OpenSpec.ofChange plateBackSpec)) plateBackCard

/-- THE TIED CARD OF 'zoetropelaw22.SealSums'. -/
def sealSumsCard : Claim7 := { stood := { row := sealSumsRow, standIns := [], harness := (true, "3d181abda6a467bafd3ad764615526846801818519d59a5b2c3f60b70ba2b1d7"), looks := false }, kinds := [], alts := [], laidByText := true, laidKinds := [.data, .data], laidTests := true, laidLooks := .later }
def SealSumsCardSaid : Prop := Claim7.holds Tryd.pinned (.plain (OpenSpec.ofChange sealSumsSpec)) sealSumsCard

/-- THE TIED CARD OF 'zoetropelaw22.SealEdges'. -/
def sealEdgesCard : Claim7 := { stood := { row := sealEdgesRow, standIns := [], harness := (true, "3d181abda6a467bafd3ad764615526846801818519d59a5b2c3f60b70ba2b1d7"), looks := false }, kinds := [], alts := [], laidByText := true, laidKinds := [.data, .data], laidTests := true, laidLooks := .later }
def SealEdgesCardSaid : Prop := Claim7.holds Tryd.pinned (.plain (OpenSpec.ofChange sealEdgesSpec)) sealEdgesCard

/-- THE SECOND FORM's CARD OF 'zoetropelaw21.PlateShows'. -/
def plateShowsUptoCard : Claim7 := { stood := { row := plateShowsUptoRow, standIns := [], harness := (true, "3d181abda6a467bafd3ad764615526846801818519d59a5b2c3f60b70ba2b1d7"), looks := false }, kinds := [], alts := [], laidByText := true, laidKinds := [.data, .data, .data], laidTests := true, laidLooks := .later }
def PlateShowsUptoCardSaid : Prop := Claim7.holds Tryd.pinned (.plain (OpenSpec.upto plateShowsSpec)) plateShowsUptoCard

/-- THE SECOND FORM's CARD OF 'zoetropelaw21.PlateFiles'. -/
def plateFilesUptoCard : Claim7 := { stood := { row := plateFilesUptoRow, standIns := [], harness := (true, "3d181abda6a467bafd3ad764615526846801818519d59a5b2c3f60b70ba2b1d7"), looks := false }, kinds := [], alts := [], laidByText := true, laidKinds := [.data, .data, .data], laidTests := true, laidLooks := .later }
def PlateFilesUptoCardSaid : Prop := Claim7.holds Tryd.pinned (.plain (OpenSpec.upto plateFilesSpec)) plateFilesUptoCard

/-- THE SECOND FORM's CARD OF 'zoetropelaw21.PlateBack'. -/
def plateBackUptoCard : Claim7 := { stood := { row := plateBackUptoRow, standIns := [], harness := (true, "3d181abda6a467bafd3ad764615526846801818519d59a5b2c3f60b70ba2b1d7"), looks := false }, kinds := [], alts := [], laidByText := true, laidKinds := [.data, .data, .data], laidTests := true, laidLooks := .later }
def PlateBackUptoCardSaid : Prop := Claim7.holds Tryd.pinned (.plain (OpenSpec.upto plateBackSpec)) plateBackUptoCard

/-- THE SECOND FORM's CARD OF 'zoetropelaw22.SealSums'. -/
def sealSumsUptoCard : Claim7 := { stood := { row := sealSumsUptoRow, standIns := [], harness := (true, "3d181abda6a467bafd3ad764615526846801818519d59a5b2c3f60b70ba2b1d7"), looks := false }, kinds := [], alts := [], laidByText := true, laidKinds := [.data, .data], laidTests := true, laidLooks := .later }
def SealSumsUptoCardSaid : Prop := Claim7.holds Tryd.pinned (.plain (OpenSpec.upto sealSumsSpec)) sealSumsUptoCard

/-- THE SECOND FORM's CARD OF 'zoetropelaw22.SealEdges'. -/
def sealEdgesUptoCard : Claim7 := { stood := { row := sealEdgesUptoRow, standIns := [], harness := (true, "3d181abda6a467bafd3ad764615526846801818519d59a5b2c3f60b70ba2b1d7"), looks := false }, kinds := [], alts := [], laidByText := true, laidKinds := [.data, .data], laidTests := true, laidLooks := .later }
def SealEdgesUptoCardSaid : Prop := Claim7.holds Tryd.pinned (.plain (OpenSpec.upto sealEdgesSpec)) sealEdgesUptoCard
end Rows
end Go.Proofs.YtjejghfeeonghaaDoor
