/-
  DERIVED. GIVEN WITH THE SEED: THE CARDS: each row of YtndpidmbfdpiaaaDoorRows.lean that lists a variable, with what it lists TIED to the program's text (the seventh form; the later family's looks); each row that meets fmt, with fmt's text TOLD by the authors' own Lean function (tested against real Go, not proved from fmt's source: count such statements apart). THE CARD IS WHAT COUNTS. Prove the row's statement (the work); the ties are given (YtndpidmbfdpiaaaDoorTie.lean); close each card by the builder's one call (the guide's Derived/Test/ToyasCard.lean, 'card_holds'). Laid BY PROGRAM, IN A SANDBOX (cutbox-door.mjs). By AI agents, Wed Nov 11 2026. No macro, syntax, notation, axiom, sorry.
-/
import Derived.Test.YtndpidmbfdpiaaaDoorRows
import GoSem.ClaimSeven
namespace Go.Proofs.YtndpidmbfdpiaaaDoor
namespace Rows

/-- THE TIED CARD OF 'zoetropelaw26.StampKeys'. -/
def stampKeysCard : Claim7 := { stood := { row := stampKeysRow, standIns := [], harness := (true, "1cd0dc7affca556ec106736cdc05d38e422a0d4cdd2abcaf02dc8752a2525ccd"), looks := false }, kinds := [], alts := [], laidByText := true, laidKinds := [.data, .data, .data], laidTests := true, laidLooks := .later }
def StampKeysCardSaid : Prop := Claim7.holds Tryd.pinned (.plain (OpenSpec.ofChange stampKeysSpec)) stampKeysCard

/-- THE TIED CARD OF 'zoetropelaw26.StampWorks'. -/
def stampWorksCard : Claim7 := { stood := { row := stampWorksRow, standIns := [], harness := (true, "1cd0dc7affca556ec106736cdc05d38e422a0d4cdd2abcaf02dc8752a2525ccd"), looks := false }, kinds := [], alts := [], laidByText := true, laidKinds := [.data, .data], laidTests := true, laidLooks := .later }
def StampWorksCardSaid : Prop := Claim7.holds Tryd.pinned (.plain (OpenSpec.ofChange stampWorksSpec)) stampWorksCard

/-- THE TIED CARD OF 'zoetropelaw26.StampOrder'. -/
def stampOrderCard : Claim7 := { stood := { row := stampOrderRow, standIns := [], harness := (true, "1cd0dc7affca556ec106736cdc05d38e422a0d4cdd2abcaf02dc8752a2525ccd"), looks := false }, kinds := [], alts := [], laidByText := true, laidKinds := [.data, .data], laidTests := true, laidLooks := .later }
def StampOrderCardSaid : Prop := Claim7.holds Tryd.pinned (.plain (OpenSpec.ofChange stampOrderSpec)) stampOrderCard

/-- THE SECOND FORM's CARD OF 'zoetropelaw26.StampKeys'. -/
def stampKeysUptoCard : Claim7 := { stood := { row := stampKeysUptoRow, standIns := [], harness := (true, "1cd0dc7affca556ec106736cdc05d38e422a0d4cdd2abcaf02dc8752a2525ccd"), looks := false }, kinds := [], alts := [], laidByText := true, laidKinds := [.data, .data, .data], laidTests := true, laidLooks := .later }
def StampKeysUptoCardSaid : Prop := Claim7.holds Tryd.pinned (.plain (OpenSpec.upto stampKeysSpec)) stampKeysUptoCard

/-- THE SECOND FORM's CARD OF 'zoetropelaw26.StampWorks'. -/
def stampWorksUptoCard : Claim7 := { stood := { row := stampWorksUptoRow, standIns := [], harness := (true, "1cd0dc7affca556ec106736cdc05d38e422a0d4cdd2abcaf02dc8752a2525ccd"), looks := false }, kinds := [], alts := [], laidByText := true, laidKinds := [.data, .data], laidTests := true, laidLooks := .later }
def StampWorksUptoCardSaid : Prop := Claim7.holds Tryd.pinned (.plain (OpenSpec.upto stampWorksSpec)) stampWorksUptoCard

/-- THE SECOND FORM's CARD OF 'zoetropelaw26.StampOrder'. -/
def stampOrderUptoCard : Claim7 := { stood := { row := stampOrderUptoRow, standIns := [], harness := (true, "1cd0dc7affca556ec106736cdc05d38e422a0d4cdd2abcaf02dc8752a2525ccd"), looks := false }, kinds := [], alts := [], laidByText := true, laidKinds := [.data, .data], laidTests := true, laidLooks := .later }
def StampOrderUptoCardSaid : Prop := Claim7.holds Tryd.pinned (.plain (OpenSpec.upto stampOrderSpec)) stampOrderUptoCard
end Rows
end Go.Proofs.YtndpidmbfdpiaaaDoor
