/-
  No cell of these rows narrows 'for every input' (looked for: loops, veiled, ifaces, maps, wideKeys, modest, calm, conditions, laid).
  DERIVED. THE GIVEN ROWS OF THIS SEAT. 5 by the template 'for every input the law returns true; each argument reads behind the call as it read before'; 0 by the template 'total and deterministic' (their statements: YthlcfhnlkpobhaaTotals.lean).
  GIVEN WITH THE SEED: the statements are not yours to turn. If you find one false, say at which input.
  Laid BY PROGRAM, IN A SANDBOX (cutbox-rows.mjs): the forced cells as the released guide's own fill.sh prints them over the translation 832c4e7c9a1cf370… (all of the seat's roots in one cut). By AI agents, Wed Nov 11 2026. No macro, syntax, notation, axiom, sorry.
-/
import Derived.Test.YthlcfhnlkpobhaaChecked
import GoSem.Claim
import GoSem.ClaimJoined
import GoSem.ClaimMapViews
import Derived.JoinedTies
import Derived.KernelRfl
namespace Go.Proofs.Ythlcfhnlkpobhaa
/- THE CELL 'sum', in the pinned program and in every row, IS THE sha256 OF THE DUMP (.gsa) THAT YthlcfhnlkpobhaaProg.lean LOADS. Nothing in Lean hashes anything: it is a label: what it is worth is what the hold of that sum in a sandbox is worth. -/
noncomputable def Try.pinned : Pinned := { name := "ythlcfhnlkpobhaa", sum := "832c4e7c9a1cf370ff5380d1c4d4b8d2f0f5ed596a6b524dbf98c5d9a17035be", checked := Try.checked }
namespace Rows
def none {H : Type} : Left H := { results := [], args := [] }

/-- 'zoetropelaw09.JobChecks': WHATEVER THE INPUT: true; the input reads as it did. -/
def jobChecksSpec : ChangeSpec := { name := "jobChecks", fn := fun _ => fun
  | [d1, d2] => { results := [.lit (.bool true)], args := [d1, d2] }
  | _ => none }
def jobChecksRow : OpenClaim := { program := "ythlcfhnlkpobhaa", sum := "832c4e7c9a1cf370ff5380d1c4d4b8d2f0f5ed596a6b524dbf98c5d9a17035be", func := "zoetrope/zoetropelaw09.JobChecks", spec := "jobChecks", unfollowed := true, recurses := true, apart := false }
def JobChecksSaid : Prop := jobChecksRow.holds Try.pinned (OpenSpec.ofChange jobChecksSpec)

/-- ITS FALSE NEIGHBOUR: 'it returns false'. Refute it at one input. -/
def jobChecksWrong : ChangeSpec := { name := "jobChecks", fn := fun _ => fun
  | [d1, d2] => { results := [.lit (.bool false)], args := [d1, d2] }
  | _ => none }
def JobChecksWrongFalsely : Prop := jobChecksRow.holds Try.pinned (OpenSpec.ofChange jobChecksWrong)

/-- 'zoetropelaw11.BoxPairs': WHATEVER THE INPUT: true; the input reads as it did. -/
def boxPairsSpec : ChangeSpec := { name := "boxPairs", fn := fun _ => fun
  | [d1, d2, d3] => { results := [.lit (.bool true)], args := [d1, d2, d3] }
  | _ => none }
def boxPairsRow : OpenClaim := { program := "ythlcfhnlkpobhaa", sum := "832c4e7c9a1cf370ff5380d1c4d4b8d2f0f5ed596a6b524dbf98c5d9a17035be", func := "zoetrope/zoetropelaw11.BoxPairs", spec := "boxPairs", unfollowed := true, recurses := true, apart := false }
def BoxPairsSaid : Prop := boxPairsRow.holds Try.pinned (OpenSpec.ofChange boxPairsSpec)

/-- ITS FALSE NEIGHBOUR: 'it returns false'. Refute it at one input. -/
def boxPairsWrong : ChangeSpec := { name := "boxPairs", fn := fun _ => fun
  | [d1, d2, d3] => { results := [.lit (.bool false)], args := [d1, d2, d3] }
  | _ => none }
def BoxPairsWrongFalsely : Prop := boxPairsRow.holds Try.pinned (OpenSpec.ofChange boxPairsWrong)

/-- 'zoetropelaw12.RayPoints': WHATEVER THE INPUT: true; the input reads as it did. -/
def rayPointsSpec : ChangeSpec := { name := "rayPoints", fn := fun _ => fun
  | [d1, d2, d3, d4, d5, d6] => { results := [.lit (.bool true)], args := [d1, d2, d3, d4, d5, d6] }
  | _ => none }
def rayPointsRow : OpenClaim := { program := "ythlcfhnlkpobhaa", sum := "832c4e7c9a1cf370ff5380d1c4d4b8d2f0f5ed596a6b524dbf98c5d9a17035be", func := "zoetrope/zoetropelaw12.RayPoints", spec := "rayPoints", unfollowed := true, recurses := true, apart := false }
def RayPointsSaid : Prop := rayPointsRow.holds Try.pinned (OpenSpec.ofChange rayPointsSpec)

/-- ITS FALSE NEIGHBOUR: 'it returns false'. Refute it at one input. -/
def rayPointsWrong : ChangeSpec := { name := "rayPoints", fn := fun _ => fun
  | [d1, d2, d3, d4, d5, d6] => { results := [.lit (.bool false)], args := [d1, d2, d3, d4, d5, d6] }
  | _ => none }
def RayPointsWrongFalsely : Prop := rayPointsRow.holds Try.pinned (OpenSpec.ofChange rayPointsWrong)

/-- 'zoetropelaw12.RaySpans': WHATEVER THE INPUT: true; the input reads as it did. -/
def raySpansSpec : ChangeSpec := { name := "raySpans", fn := fun _ => fun
  | [d1, d2, d3, d4, d5] => { results := [.lit (.bool true)], args := [d1, d2, d3, d4, d5] }
  | _ => none }
def raySpansRow : OpenClaim := { program := "ythlcfhnlkpobhaa", sum := "832c4e7c9a1cf370ff5380d1c4d4b8d2f0f5ed596a6b524dbf98c5d9a17035be", func := "zoetrope/zoetropelaw12.RaySpans", spec := "raySpans", unfollowed := true, recurses := true, apart := false }
def RaySpansSaid : Prop := raySpansRow.holds Try.pinned (OpenSpec.ofChange raySpansSpec)

/-- ITS FALSE NEIGHBOUR: 'it returns false'. Refute it at one input. -/
def raySpansWrong : ChangeSpec := { name := "raySpans", fn := fun _ => fun
  | [d1, d2, d3, d4, d5] => { results := [.lit (.bool false)], args := [d1, d2, d3, d4, d5] }
  | _ => none }
def RaySpansWrongFalsely : Prop := raySpansRow.holds Try.pinned (OpenSpec.ofChange raySpansWrong)

/-- 'zoetropelaw12.RayNearer': WHATEVER THE INPUT: true; the input reads as it did. -/
def rayNearerSpec : ChangeSpec := { name := "rayNearer", fn := fun _ => fun
  | [d1, d2, d3, d4, d5] => { results := [.lit (.bool true)], args := [d1, d2, d3, d4, d5] }
  | _ => none }
def rayNearerRow : OpenClaim := { program := "ythlcfhnlkpobhaa", sum := "832c4e7c9a1cf370ff5380d1c4d4b8d2f0f5ed596a6b524dbf98c5d9a17035be", func := "zoetrope/zoetropelaw12.RayNearer", spec := "rayNearer", unfollowed := true, recurses := true, apart := false }
def RayNearerSaid : Prop := rayNearerRow.holds Try.pinned (OpenSpec.ofChange rayNearerSpec)

/-- ITS FALSE NEIGHBOUR: 'it returns false'. Refute it at one input. -/
def rayNearerWrong : ChangeSpec := { name := "rayNearer", fn := fun _ => fun
  | [d1, d2, d3, d4, d5] => { results := [.lit (.bool false)], args := [d1, d2, d3, d4, d5] }
  | _ => none }
def RayNearerWrongFalsely : Prop := rayNearerRow.holds Try.pinned (OpenSpec.ofChange rayNearerWrong)

/- THE SECOND FORM. 'bulk': how many values and letters a reading holds, each counted each time it is reached (what is shared counts as often as it is met; a slice's spare places count too). A statement '..UptoSaid' is the law's where the arguments, and the package variables that the reading takes, are together of bulk at most 1048576: NARROWER than '..Said'. Prove '..Said' where nothing that the law and all that it calls make is longer than what came in: it says more and counts as full. Else prove '..UptoSaid'. A law counts once. -/
mutual
def uptoBulk {H : Type} : DataW H → Nat
  | .lit (.string bytes) => bytes.length + 1
  | .lit _ => 1
  | .nil => 1
  | .ptr d => uptoBulk d + 1
  | .slice elems spare => uptoBulkAll elems + uptoBulkAll spare + 1
  | .agg parts => uptoBulkAll parts + 1
  | .iface _ d => uptoBulk d + 1
  | .map entries => uptoBulkEntries entries + 1
  | .held _ => 1
def uptoBulkAll {H : Type} : List (DataW H) → Nat
  | [] => 0
  | d :: r => uptoBulk d + uptoBulkAll r
def uptoBulkEntries {H : Type} : List (Lit × DataW H) → Nat
  | [] => 0
  | x :: r => uptoBulkEntry x + uptoBulkEntries r
def uptoBulkEntry {H : Type} : Lit × DataW H → Nat
  | (.string bytes, d) => bytes.length + uptoBulk d + 1
  | (_, d) => uptoBulk d + 1
 end
def uptoSmall : (H : Type) → List (DataW H) → Bool := fun _ ds => decide (uptoBulkAll ds ≤ 1048576)
def OpenSpec.upto (s : _root_.Go.ChangeSpec) : _root_.Go.OpenSpec := { _root_.Go.OpenSpec.ofChange s with cond := some uptoSmall }

/-- 'zoetropelaw09.JobChecks', WHERE WHAT IT READS IS OF BULK AT MOST 1048576: true; the input reads as it did. -/
def jobChecksUptoRow : OpenClaim := { program := "ythlcfhnlkpobhaa", sum := "832c4e7c9a1cf370ff5380d1c4d4b8d2f0f5ed596a6b524dbf98c5d9a17035be", func := "zoetrope/zoetropelaw09.JobChecks", spec := "jobChecks", unfollowed := true, recurses := true, apart := false, narrowed := true }
def JobChecksUptoSaid : Prop := jobChecksUptoRow.holds Try.pinned (OpenSpec.upto jobChecksSpec)

/-- 'zoetropelaw11.BoxPairs', WHERE WHAT IT READS IS OF BULK AT MOST 1048576: true; the input reads as it did. -/
def boxPairsUptoRow : OpenClaim := { program := "ythlcfhnlkpobhaa", sum := "832c4e7c9a1cf370ff5380d1c4d4b8d2f0f5ed596a6b524dbf98c5d9a17035be", func := "zoetrope/zoetropelaw11.BoxPairs", spec := "boxPairs", unfollowed := true, recurses := true, apart := false, narrowed := true }
def BoxPairsUptoSaid : Prop := boxPairsUptoRow.holds Try.pinned (OpenSpec.upto boxPairsSpec)

/-- 'zoetropelaw12.RayPoints', WHERE WHAT IT READS IS OF BULK AT MOST 1048576: true; the input reads as it did. -/
def rayPointsUptoRow : OpenClaim := { program := "ythlcfhnlkpobhaa", sum := "832c4e7c9a1cf370ff5380d1c4d4b8d2f0f5ed596a6b524dbf98c5d9a17035be", func := "zoetrope/zoetropelaw12.RayPoints", spec := "rayPoints", unfollowed := true, recurses := true, apart := false, narrowed := true }
def RayPointsUptoSaid : Prop := rayPointsUptoRow.holds Try.pinned (OpenSpec.upto rayPointsSpec)

/-- 'zoetropelaw12.RaySpans', WHERE WHAT IT READS IS OF BULK AT MOST 1048576: true; the input reads as it did. -/
def raySpansUptoRow : OpenClaim := { program := "ythlcfhnlkpobhaa", sum := "832c4e7c9a1cf370ff5380d1c4d4b8d2f0f5ed596a6b524dbf98c5d9a17035be", func := "zoetrope/zoetropelaw12.RaySpans", spec := "raySpans", unfollowed := true, recurses := true, apart := false, narrowed := true }
def RaySpansUptoSaid : Prop := raySpansUptoRow.holds Try.pinned (OpenSpec.upto raySpansSpec)

/-- 'zoetropelaw12.RayNearer', WHERE WHAT IT READS IS OF BULK AT MOST 1048576: true; the input reads as it did. -/
def rayNearerUptoRow : OpenClaim := { program := "ythlcfhnlkpobhaa", sum := "832c4e7c9a1cf370ff5380d1c4d4b8d2f0f5ed596a6b524dbf98c5d9a17035be", func := "zoetrope/zoetropelaw12.RayNearer", spec := "rayNearer", unfollowed := true, recurses := true, apart := false, narrowed := true }
def RayNearerUptoSaid : Prop := rayNearerUptoRow.holds Try.pinned (OpenSpec.upto rayNearerSpec)

end Rows
end Go.Proofs.Ythlcfhnlkpobhaa
