/-
  No cell of these rows narrows 'for every input' (looked for: loops, veiled, ifaces, maps, wideKeys, modest, calm, conditions, laid).
  DERIVED. THE GIVEN ROWS OF THIS SEAT. 4 by the template 'for every input the law returns true; each argument reads behind the call as it read before'; 0 by the template 'total and deterministic' (their statements: YtplcbdmiccpnnaaTotals.lean).
  GIVEN WITH THE SEED: the statements are not yours to turn. If you find one false, say at which input.
  Laid BY PROGRAM, IN A SANDBOX (cutbox-rows.mjs): the forced cells as the released guide's own fill.sh prints them over the translation f4f6a3b3e15ee9fd… (all of the seat's roots in one cut). By AI agents, Wed Nov 11 2026. No macro, syntax, notation, axiom, sorry.
-/
import Derived.Test.YtplcbdmiccpnnaaChecked
import GoSem.Claim
import GoSem.ClaimJoined
import GoSem.ClaimMapViews
import Derived.JoinedTies
import Derived.KernelRfl
namespace Go.Proofs.Ytplcbdmiccpnnaa
/- THE CELL 'sum', in the pinned program and in every row, IS THE sha256 OF THE DUMP (.gsa) THAT YtplcbdmiccpnnaaProg.lean LOADS. Nothing in Lean hashes anything: it is a label: what it is worth is what the hold of that sum in a sandbox is worth. -/
noncomputable def Try.pinned : Pinned := { name := "ytplcbdmiccpnnaa", sum := "f4f6a3b3e15ee9fdde2b273210da5305d60f96ba33a1fb22613f2d27904c5a3e", checked := Try.checked }
namespace Rows
def none {H : Type} : Left H := { results := [], args := [] }

/-- 'zoetropelaw13.TreeMakes': WHATEVER THE INPUT: true; the input reads as it did. -/
def treeMakesSpec : ChangeSpec := { name := "treeMakes", fn := fun _ => fun
  | [d] => { results := [.lit (.bool true)], args := [d] }
  | _ => none }
def treeMakesRow : OpenClaim := { program := "ytplcbdmiccpnnaa", sum := "f4f6a3b3e15ee9fdde2b273210da5305d60f96ba33a1fb22613f2d27904c5a3e", func := "zoetrope/zoetropelaw13.TreeMakes", spec := "treeMakes", unfollowed := true, recurses := true, apart := false }
def TreeMakesSaid : Prop := treeMakesRow.holds Try.pinned (OpenSpec.ofChange treeMakesSpec)

/-- ITS FALSE NEIGHBOUR: 'it returns false'. Refute it at one input. -/
def treeMakesWrong : ChangeSpec := { name := "treeMakes", fn := fun _ => fun
  | [d] => { results := [.lit (.bool false)], args := [d] }
  | _ => none }
def TreeMakesWrongFalsely : Prop := treeMakesRow.holds Try.pinned (OpenSpec.ofChange treeMakesWrong)

/-- 'zoetropelaw13.TreeHolds': WHATEVER THE INPUT: true; the input reads as it did. -/
def treeHoldsSpec : ChangeSpec := { name := "treeHolds", fn := fun _ => fun
  | [d] => { results := [.lit (.bool true)], args := [d] }
  | _ => none }
def treeHoldsRow : OpenClaim := { program := "ytplcbdmiccpnnaa", sum := "f4f6a3b3e15ee9fdde2b273210da5305d60f96ba33a1fb22613f2d27904c5a3e", func := "zoetrope/zoetropelaw13.TreeHolds", spec := "treeHolds", unfollowed := true, recurses := true, apart := false }
def TreeHoldsSaid : Prop := treeHoldsRow.holds Try.pinned (OpenSpec.ofChange treeHoldsSpec)

/-- ITS FALSE NEIGHBOUR: 'it returns false'. Refute it at one input. -/
def treeHoldsWrong : ChangeSpec := { name := "treeHolds", fn := fun _ => fun
  | [d] => { results := [.lit (.bool false)], args := [d] }
  | _ => none }
def TreeHoldsWrongFalsely : Prop := treeHoldsRow.holds Try.pinned (OpenSpec.ofChange treeHoldsWrong)

/-- 'zoetropelaw16.CoatBounces': WHATEVER THE INPUT: true; the input reads as it did. -/
def coatBouncesSpec : ChangeSpec := { name := "coatBounces", fn := fun _ => fun
  | [d1, d2, d3, d4, d5] => { results := [.lit (.bool true)], args := [d1, d2, d3, d4, d5] }
  | _ => none }
def coatBouncesRow : OpenClaim := { program := "ytplcbdmiccpnnaa", sum := "f4f6a3b3e15ee9fdde2b273210da5305d60f96ba33a1fb22613f2d27904c5a3e", func := "zoetrope/zoetropelaw16.CoatBounces", spec := "coatBounces", unfollowed := true, recurses := true, apart := false }
def CoatBouncesSaid : Prop := coatBouncesRow.holds Try.pinned (OpenSpec.ofChange coatBouncesSpec)

/-- ITS FALSE NEIGHBOUR: 'it returns false'. Refute it at one input. -/
def coatBouncesWrong : ChangeSpec := { name := "coatBounces", fn := fun _ => fun
  | [d1, d2, d3, d4, d5] => { results := [.lit (.bool false)], args := [d1, d2, d3, d4, d5] }
  | _ => none }
def CoatBouncesWrongFalsely : Prop := coatBouncesRow.holds Try.pinned (OpenSpec.ofChange coatBouncesWrong)

/-- 'zoetropelaw16.CoatLives': WHATEVER THE INPUT: true; the input reads as it did. -/
def coatLivesSpec : ChangeSpec := { name := "coatLives", fn := fun _ => fun
  | [d1, d2] => { results := [.lit (.bool true)], args := [d1, d2] }
  | _ => none }
def coatLivesRow : OpenClaim := { program := "ytplcbdmiccpnnaa", sum := "f4f6a3b3e15ee9fdde2b273210da5305d60f96ba33a1fb22613f2d27904c5a3e", func := "zoetrope/zoetropelaw16.CoatLives", spec := "coatLives", unfollowed := true, recurses := true, apart := false }
def CoatLivesSaid : Prop := coatLivesRow.holds Try.pinned (OpenSpec.ofChange coatLivesSpec)

/-- ITS FALSE NEIGHBOUR: 'it returns false'. Refute it at one input. -/
def coatLivesWrong : ChangeSpec := { name := "coatLives", fn := fun _ => fun
  | [d1, d2] => { results := [.lit (.bool false)], args := [d1, d2] }
  | _ => none }
def CoatLivesWrongFalsely : Prop := coatLivesRow.holds Try.pinned (OpenSpec.ofChange coatLivesWrong)

/- THE SECOND FORM. 'bulk': how many values and letters a reading holds, each counted each time it is reached (what is shared counts as often as it is met; a slice's spare places count too). A statement '..UptoSaid' is the law's where the arguments, and the package variables that the reading takes, are together of bulk at most 1048576: NARROWER than '..Said'. Prove '..Said' where nothing that the law and all that it calls make is longer than what came in: it says more and counts as full. Else prove '..UptoSaid'. A law counts once. -/
mutual
def uptoBulk {H : Type} : DataW H → Nat
  | .lit (.string bytes) => bytes.length + 1
  | .lit _ => 1
  | .nil => 1
  | .ptr d => uptoBulk d + 1
  | .slice elems spare => uptoBulkAll elems + uptoBulkAll spare + 1
  | .agg parts => uptoBulkAll parts + 1
  | .iface _ d => uptoBulk d + 1
  | .map entries => uptoBulkEntries entries + 1
  | .held _ => 1
def uptoBulkAll {H : Type} : List (DataW H) → Nat
  | [] => 0
  | d :: r => uptoBulk d + uptoBulkAll r
def uptoBulkEntries {H : Type} : List (Lit × DataW H) → Nat
  | [] => 0
  | x :: r => uptoBulkEntry x + uptoBulkEntries r
def uptoBulkEntry {H : Type} : Lit × DataW H → Nat
  | (.string bytes, d) => bytes.length + uptoBulk d + 1
  | (_, d) => uptoBulk d + 1
 end
def uptoSmall : (H : Type) → List (DataW H) → Bool := fun _ ds => decide (uptoBulkAll ds ≤ 1048576)
def OpenSpec.upto (s : _root_.Go.ChangeSpec) : _root_.Go.OpenSpec := { _root_.Go.OpenSpec.ofChange s with cond := some uptoSmall }

/-- 'zoetropelaw13.TreeMakes', WHERE WHAT IT READS IS OF BULK AT MOST 1048576: true; the input reads as it did. -/
def treeMakesUptoRow : OpenClaim := { program := "ytplcbdmiccpnnaa", sum := "f4f6a3b3e15ee9fdde2b273210da5305d60f96ba33a1fb22613f2d27904c5a3e", func := "zoetrope/zoetropelaw13.TreeMakes", spec := "treeMakes", unfollowed := true, recurses := true, apart := false, narrowed := true }
def TreeMakesUptoSaid : Prop := treeMakesUptoRow.holds Try.pinned (OpenSpec.upto treeMakesSpec)

/-- 'zoetropelaw13.TreeHolds', WHERE WHAT IT READS IS OF BULK AT MOST 1048576: true; the input reads as it did. -/
def treeHoldsUptoRow : OpenClaim := { program := "ytplcbdmiccpnnaa", sum := "f4f6a3b3e15ee9fdde2b273210da5305d60f96ba33a1fb22613f2d27904c5a3e", func := "zoetrope/zoetropelaw13.TreeHolds", spec := "treeHolds", unfollowed := true, recurses := true, apart := false, narrowed := true }
def TreeHoldsUptoSaid : Prop := treeHoldsUptoRow.holds Try.pinned (OpenSpec.upto treeHoldsSpec)

/-- 'zoetropelaw16.CoatBounces', WHERE WHAT IT READS IS OF BULK AT MOST 1048576: true; the input reads as it did. -/
def coatBouncesUptoRow : OpenClaim := { program := "ytplcbdmiccpnnaa", sum := "f4f6a3b3e15ee9fdde2b273210da5305d60f96ba33a1fb22613f2d27904c5a3e", func := "zoetrope/zoetropelaw16.CoatBounces", spec := "coatBounces", unfollowed := true, recurses := true, apart := false, narrowed := true }
def CoatBouncesUptoSaid : Prop := coatBouncesUptoRow.holds Try.pinned (OpenSpec.upto coatBouncesSpec)

/-- 'zoetropelaw16.CoatLives', WHERE WHAT IT READS IS OF BULK AT MOST 1048576: true; the input reads as it did. -/
def coatLivesUptoRow : OpenClaim := { program := "ytplcbdmiccpnnaa", sum := "f4f6a3b3e15ee9fdde2b273210da5305d60f96ba33a1fb22613f2d27904c5a3e", func := "zoetrope/zoetropelaw16.CoatLives", spec := "coatLives", unfollowed := true, recurses := true, apart := false, narrowed := true }
def CoatLivesUptoSaid : Prop := coatLivesUptoRow.holds Try.pinned (OpenSpec.upto coatLivesSpec)

end Rows
end Go.Proofs.Ytplcbdmiccpnnaa
