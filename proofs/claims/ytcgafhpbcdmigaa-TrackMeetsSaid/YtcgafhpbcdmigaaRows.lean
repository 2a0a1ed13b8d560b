/-
  No cell of these rows narrows 'for every input' (looked for: loops, veiled, ifaces, maps, wideKeys, modest, calm, conditions, laid).
  DERIVED. THE GIVEN ROWS OF THIS SEAT. 6 by the template 'for every input the law returns true; each argument reads behind the call as it read before'; 0 by the template 'total and deterministic' (their statements: YtcgafhpbcdmigaaTotals.lean).
  GIVEN WITH THE SEED: the statements are not yours to turn. If you find one false, say at which input.
  Laid BY PROGRAM, IN A SANDBOX (cutbox-rows.mjs): the forced cells as the released guide's own fill.sh prints them over the translation 2feb47dcd67f6f25… (all of the seat's roots in one cut). By AI agents, Wed Nov 11 2026. No macro, syntax, notation, axiom, sorry.
-/
import Derived.Test.YtcgafhpbcdmigaaChecked
import GoSem.Claim
import GoSem.ClaimJoined
import GoSem.ClaimMapViews
import Derived.JoinedTies
import Derived.KernelRfl
namespace Go.Proofs.Ytcgafhpbcdmigaa
/- THE CELL 'sum', in the pinned program and in every row, IS THE sha256 OF THE DUMP (.gsa) THAT YtcgafhpbcdmigaaProg.lean LOADS. Nothing in Lean hashes anything: it is a label: what it is worth is what the hold of that sum in a sandbox is worth. -/
noncomputable def Try.pinned : Pinned := { name := "ytcgafhpbcdmigaa", sum := "2feb47dcd67f6f254121f8c03d31adfe81ff6b357a3b98d0d635eeaa8d552894", checked := Try.checked }
namespace Rows
def none {H : Type} : Left H := { results := [], args := [] }

/-- 'zoetropelaw05.HueSums': WHATEVER THE INPUT: true; the input reads as it did. -/
def hueSumsSpec : ChangeSpec := { name := "hueSums", fn := fun _ => fun
  | [d1, d2, d3] => { results := [.lit (.bool true)], args := [d1, d2, d3] }
  | _ => none }
def hueSumsRow : OpenClaim := { program := "ytcgafhpbcdmigaa", sum := "2feb47dcd67f6f254121f8c03d31adfe81ff6b357a3b98d0d635eeaa8d552894", func := "zoetrope/zoetropelaw05.HueSums", spec := "hueSums", unfollowed := true, recurses := true, apart := false }
def HueSumsSaid : Prop := hueSumsRow.holds Try.pinned (OpenSpec.ofChange hueSumsSpec)

/-- ITS FALSE NEIGHBOUR: 'it returns false'. Refute it at one input. -/
def hueSumsWrong : ChangeSpec := { name := "hueSums", fn := fun _ => fun
  | [d1, d2, d3] => { results := [.lit (.bool false)], args := [d1, d2, d3] }
  | _ => none }
def HueSumsWrongFalsely : Prop := hueSumsRow.holds Try.pinned (OpenSpec.ofChange hueSumsWrong)

/-- 'zoetropelaw05.HueLists': WHATEVER THE INPUT: true; the input reads as it did. -/
def hueListsSpec : ChangeSpec := { name := "hueLists", fn := fun _ => fun
  | [d1, d2] => { results := [.lit (.bool true)], args := [d1, d2] }
  | _ => none }
def hueListsRow : OpenClaim := { program := "ytcgafhpbcdmigaa", sum := "2feb47dcd67f6f254121f8c03d31adfe81ff6b357a3b98d0d635eeaa8d552894", func := "zoetrope/zoetropelaw05.HueLists", spec := "hueLists", unfollowed := true, recurses := true, apart := false }
def HueListsSaid : Prop := hueListsRow.holds Try.pinned (OpenSpec.ofChange hueListsSpec)

/-- ITS FALSE NEIGHBOUR: 'it returns false'. Refute it at one input. -/
def hueListsWrong : ChangeSpec := { name := "hueLists", fn := fun _ => fun
  | [d1, d2] => { results := [.lit (.bool false)], args := [d1, d2] }
  | _ => none }
def HueListsWrongFalsely : Prop := hueListsRow.holds Try.pinned (OpenSpec.ofChange hueListsWrong)

/-- 'zoetropelaw05.HueShows': WHATEVER THE INPUT: true; the input reads as it did. -/
def hueShowsSpec : ChangeSpec := { name := "hueShows", fn := fun _ => fun
  | [d1, d2] => { results := [.lit (.bool true)], args := [d1, d2] }
  | _ => none }
def hueShowsRow : OpenClaim := { program := "ytcgafhpbcdmigaa", sum := "2feb47dcd67f6f254121f8c03d31adfe81ff6b357a3b98d0d635eeaa8d552894", func := "zoetrope/zoetropelaw05.HueShows", spec := "hueShows", apart := false }
def HueShowsSaid : Prop := hueShowsRow.holds Try.pinned (OpenSpec.ofChange hueShowsSpec)

/-- ITS FALSE NEIGHBOUR: 'it returns false'. Refute it at one input. -/
def hueShowsWrong : ChangeSpec := { name := "hueShows", fn := fun _ => fun
  | [d1, d2] => { results := [.lit (.bool false)], args := [d1, d2] }
  | _ => none }
def HueShowsWrongFalsely : Prop := hueShowsRow.holds Try.pinned (OpenSpec.ofChange hueShowsWrong)

/-- 'zoetropelaw05.HueRises': WHATEVER THE INPUT: true; the input reads as it did. -/
def hueRisesSpec : ChangeSpec := { name := "hueRises", fn := fun _ => fun
  | [d1, d2] => { results := [.lit (.bool true)], args := [d1, d2] }
  | _ => none }
def hueRisesRow : OpenClaim := { program := "ytcgafhpbcdmigaa", sum := "2feb47dcd67f6f254121f8c03d31adfe81ff6b357a3b98d0d635eeaa8d552894", func := "zoetrope/zoetropelaw05.HueRises", spec := "hueRises", apart := false }
def HueRisesSaid : Prop := hueRisesRow.holds Try.pinned (OpenSpec.ofChange hueRisesSpec)

/-- ITS FALSE NEIGHBOUR: 'it returns false'. Refute it at one input. -/
def hueRisesWrong : ChangeSpec := { name := "hueRises", fn := fun _ => fun
  | [d1, d2] => { results := [.lit (.bool false)], args := [d1, d2] }
  | _ => none }
def HueRisesWrongFalsely : Prop := hueRisesRow.holds Try.pinned (OpenSpec.ofChange hueRisesWrong)

/-- 'zoetropelaw06.TrackValues': WHATEVER THE INPUT: true; the input reads as it did. -/
def trackValuesSpec : ChangeSpec := { name := "trackValues", fn := fun _ => fun
  | [d1, d2] => { results := [.lit (.bool true)], args := [d1, d2] }
  | _ => none }
def trackValuesRow : OpenClaim := { program := "ytcgafhpbcdmigaa", sum := "2feb47dcd67f6f254121f8c03d31adfe81ff6b357a3b98d0d635eeaa8d552894", func := "zoetrope/zoetropelaw06.TrackValues", spec := "trackValues", unfollowed := true, recurses := true, apart := false }
def TrackValuesSaid : Prop := trackValuesRow.holds Try.pinned (OpenSpec.ofChange trackValuesSpec)

/-- ITS FALSE NEIGHBOUR: 'it returns false'. Refute it at one input. -/
def trackValuesWrong : ChangeSpec := { name := "trackValues", fn := fun _ => fun
  | [d1, d2] => { results := [.lit (.bool false)], args := [d1, d2] }
  | _ => none }
def TrackValuesWrongFalsely : Prop := trackValuesRow.holds Try.pinned (OpenSpec.ofChange trackValuesWrong)

/-- 'zoetropelaw06.TrackMeets': WHATEVER THE INPUT: true; the input reads as it did. -/
def trackMeetsSpec : ChangeSpec := { name := "trackMeets", fn := fun _ => fun
  | [d1, d2] => { results := [.lit (.bool true)], args := [d1, d2] }
  | _ => none }
def trackMeetsRow : OpenClaim := { program := "ytcgafhpbcdmigaa", sum := "2feb47dcd67f6f254121f8c03d31adfe81ff6b357a3b98d0d635eeaa8d552894", func := "zoetrope/zoetropelaw06.TrackMeets", spec := "trackMeets", unfollowed := true, recurses := true, apart := false }
def TrackMeetsSaid : Prop := trackMeetsRow.holds Try.pinned (OpenSpec.ofChange trackMeetsSpec)

/-- ITS FALSE NEIGHBOUR: 'it returns false'. Refute it at one input. -/
def trackMeetsWrong : ChangeSpec := { name := "trackMeets", fn := fun _ => fun
  | [d1, d2] => { results := [.lit (.bool false)], args := [d1, d2] }
  | _ => none }
def TrackMeetsWrongFalsely : Prop := trackMeetsRow.holds Try.pinned (OpenSpec.ofChange trackMeetsWrong)

/- THE SECOND FORM. 'bulk': how many values and letters a reading holds, each counted each time it is reached (what is shared counts as often as it is met; a slice's spare places count too). A statement '..UptoSaid' is the law's where the arguments, and the package variables that the reading takes, are together of bulk at most 1048576: NARROWER than '..Said'. Prove '..Said' where nothing that the law and all that it calls make is longer than what came in: it says more and counts as full. Else prove '..UptoSaid'. A law counts once. -/
mutual
def uptoBulk {H : Type} : DataW H → Nat
  | .lit (.string bytes) => bytes.length + 1
  | .lit _ => 1
  | .nil => 1
  | .ptr d => uptoBulk d + 1
  | .slice elems spare => uptoBulkAll elems + uptoBulkAll spare + 1
  | .agg parts => uptoBulkAll parts + 1
  | .iface _ d => uptoBulk d + 1
  | .map entries => uptoBulkEntries entries + 1
  | .held _ => 1
def uptoBulkAll {H : Type} : List (DataW H) → Nat
  | [] => 0
  | d :: r => uptoBulk d + uptoBulkAll r
def uptoBulkEntries {H : Type} : List (Lit × DataW H) → Nat
  | [] => 0
  | x :: r => uptoBulkEntry x + uptoBulkEntries r
def uptoBulkEntry {H : Type} : Lit × DataW H → Nat
  | (.string bytes, d) => bytes.length + uptoBulk d + 1
  | (_, d) => uptoBulk d + 1
 end
def uptoSmall : (H : Type) → List (DataW H) → Bool := fun _ ds => decide (uptoBulkAll ds ≤ 1048576)
def OpenSpec.upto (s : _root_.Go.ChangeSpec) : _root_.Go.OpenSpec := { _root_.Go.OpenSpec.ofChange s with cond := some uptoSmall }

/-- 'zoetropelaw05.HueSums', WHERE WHAT IT READS IS OF BULK AT MOST 1048576: true; the input reads as it did. -/
def hueSumsUptoRow : OpenClaim := { program := "ytcgafhpbcdmigaa", sum := "2feb47dcd67f6f254121f8c03d31adfe81ff6b357a3b98d0d635eeaa8d552894", func := "zoetrope/zoetropelaw05.HueSums", spec := "hueSums", unfollowed := true, recurses := true, apart := false, narrowed := true }
def HueSumsUptoSaid : Prop := hueSumsUptoRow.holds Try.pinned (OpenSpec.upto hueSumsSpec)

/-- 'zoetropelaw05.HueLists', WHERE WHAT IT READS IS OF BULK AT MOST 1048576: true; the input reads as it did. -/
def hueListsUptoRow : OpenClaim := { program := "ytcgafhpbcdmigaa", sum := "2feb47dcd67f6f254121f8c03d31adfe81ff6b357a3b98d0d635eeaa8d552894", func := "zoetrope/zoetropelaw05.HueLists", spec := "hueLists", unfollowed := true, recurses := true, apart := false, narrowed := true }
def HueListsUptoSaid : Prop := hueListsUptoRow.holds Try.pinned (OpenSpec.upto hueListsSpec)

/-- 'zoetropelaw05.HueShows', WHERE WHAT IT READS IS OF BULK AT MOST 1048576: true; the input reads as it did. -/
def hueShowsUptoRow : OpenClaim := { program := "ytcgafhpbcdmigaa", sum := "2feb47dcd67f6f254121f8c03d31adfe81ff6b357a3b98d0d635eeaa8d552894", func := "zoetrope/zoetropelaw05.HueShows", spec := "hueShows", apart := false, narrowed := true }
def HueShowsUptoSaid : Prop := hueShowsUptoRow.holds Try.pinned (OpenSpec.upto hueShowsSpec)

/-- 'zoetropelaw05.HueRises', WHERE WHAT IT READS IS OF BULK AT MOST 1048576: true; the input reads as it did. -/
def hueRisesUptoRow : OpenClaim := { program := "ytcgafhpbcdmigaa", sum := "2feb47dcd67f6f254121f8c03d31adfe81ff6b357a3b98d0d635eeaa8d552894", func := "zoetrope/zoetropelaw05.HueRises", spec := "hueRises", apart := false, narrowed := true }
def HueRisesUptoSaid : Prop := hueRisesUptoRow.holds Try.pinned (OpenSpec.upto hueRisesSpec)

/-- 'zoetropelaw06.TrackValues', WHERE WHAT IT READS IS OF BULK AT MOST 1048576: true; the input reads as it did. -/
def trackValuesUptoRow : OpenClaim := { program := "ytcgafhpbcdmigaa", sum := "2feb47dcd67f6f254121f8c03d31adfe81ff6b357a3b98d0d635eeaa8d552894", func := "zoetrope/zoetropelaw06.TrackValues", spec := "trackValues", unfollowed := true, recurses := true, apart := false, narrowed := true }
def TrackValuesUptoSaid : Prop := trackValuesUptoRow.holds Try.pinned (OpenSpec.upto trackValuesSpec)

/-- 'zoetropelaw06.TrackMeets', WHERE WHAT IT READS IS OF BULK AT MOST 1048576: true; the input reads as it did. -/
def trackMeetsUptoRow : OpenClaim := { program := "ytcgafhpbcdmigaa", sum := "2feb47dcd67f6f254121f8c03d31adfe81ff6b357a3b98d0d635eeaa8d552894", func := "zoetrope/zoetropelaw06.TrackMeets", spec := "trackMeets", unfollowed := true, recurses := true, apart := false, narrowed := true }
def TrackMeetsUptoSaid : Prop := trackMeetsUptoRow.holds Try.pinned (OpenSpec.upto trackMeetsSpec)

end Rows
end Go.Proofs.Ytcgafhpbcdmigaa
