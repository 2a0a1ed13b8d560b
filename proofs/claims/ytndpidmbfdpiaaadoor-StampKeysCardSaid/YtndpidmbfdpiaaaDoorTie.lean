/-
  DERIVED. GIVEN WITH THE SEED: THE PROGRAM's TIES (one call each: nine closed facts by the kernel) AND EACH ROW's TIE, after the 31st guide's Derived/Test/Toyas{Tie, Card}.lean. No idea stands in it: it is a product of the set-up. Laid BY PROGRAM, IN A SANDBOX (cutbox-door.mjs). By AI agents, Wed Nov 11 2026. No macro, syntax, notation, axiom, sorry.
-/
import Derived.Test.YtndpidmbfdpiaaaDoorRows
import Derived.LaidByTextLater
import Derived.SevenTiedAt
import Derived.LaidSub
import Derived.LaidOnce
namespace Go.Proofs.YtndpidmbfdpiaaaDoor
open Go
set_option maxRecDepth 100000
theorem seatTie1 : Tryd.prog.laidByTextLater [("zoetrope/seal.start", Rows.laid_zoetrope_seal_start), ("zoetrope/seal.rounds", Rows.laid_zoetrope_seal_rounds), ("zoetrope/stamp.names", Rows.laid_zoetrope_stamp_names)] [.data, .data, .data] true :=
  Program.laidByTextLater_by_one 24 8 65 (by kernel_rfl) (by kernel_rfl) (by kernel_rfl) (by kernel_rfl) (by kernel_rfl) (by kernel_rfl) (fun _ _ => by kernel_rfl)
theorem noOwnUnsafe : Tryd.pinned.checked.prog.headLifts.contains "ownunsafe" = false := by kernel_rfl
theorem tie : Tryd.prog.laidByTextLater [("zoetrope/seal.start", Rows.laid_zoetrope_seal_start), ("zoetrope/seal.rounds", Rows.laid_zoetrope_seal_rounds), ("zoetrope/stamp.names", Rows.laid_zoetrope_stamp_names)] [.data, .data, .data] true :=
  Program.laidByTextLater.sub seatTie1 ["zoetrope/seal.start", "zoetrope/seal.rounds", "zoetrope/stamp.names"] (by kernel_rfl) (by kernel_rfl)
theorem stampKeys_row_tie : Rows.stampKeysRow.laidByTextAt .later Tryd.pinned [.data, .data, .data] true :=
  OpenClaim.laidByTextAt_later rfl rfl tie noOwnUnsafe
theorem tie2 : Tryd.prog.laidByTextLater [("zoetrope/seal.start", Rows.laid_zoetrope_seal_start), ("zoetrope/seal.rounds", Rows.laid_zoetrope_seal_rounds)] [.data, .data] true :=
  Program.laidByTextLater.sub seatTie1 ["zoetrope/seal.start", "zoetrope/seal.rounds"] (by kernel_rfl) (by kernel_rfl)
theorem stampWorks_row_tie : Rows.stampWorksRow.laidByTextAt .later Tryd.pinned [.data, .data] true :=
  OpenClaim.laidByTextAt_later rfl rfl tie2 noOwnUnsafe
theorem stampOrder_row_tie : Rows.stampOrderRow.laidByTextAt .later Tryd.pinned [.data, .data] true :=
  OpenClaim.laidByTextAt_later rfl rfl tie2 noOwnUnsafe
theorem stampKeysUpto_row_tie : Rows.stampKeysUptoRow.laidByTextAt .later Tryd.pinned [.data, .data, .data] true :=
  OpenClaim.laidByTextAt_later rfl rfl tie noOwnUnsafe
theorem stampWorksUpto_row_tie : Rows.stampWorksUptoRow.laidByTextAt .later Tryd.pinned [.data, .data] true :=
  OpenClaim.laidByTextAt_later rfl rfl tie2 noOwnUnsafe
theorem stampOrderUpto_row_tie : Rows.stampOrderUptoRow.laidByTextAt .later Tryd.pinned [.data, .data] true :=
  OpenClaim.laidByTextAt_later rfl rfl tie2 noOwnUnsafe
end Go.Proofs.YtndpidmbfdpiaaaDoor
