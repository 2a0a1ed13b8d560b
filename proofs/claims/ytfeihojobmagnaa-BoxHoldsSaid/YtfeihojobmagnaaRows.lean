/-
  No cell of these rows narrows 'for every input' (looked for: loops, veiled, ifaces, maps, wideKeys, modest, calm, conditions, laid).
  DERIVED. THE GIVEN ROWS OF THIS SEAT. 6 by the template 'for every input the law returns true; each argument reads behind the call as it read before'; 0 by the template 'total and deterministic' (their statements: YtfeihojobmagnaaTotals.lean).
  GIVEN WITH THE SEED: the statements are not yours to turn. If you find one false, say at which input.
  Laid BY PROGRAM, IN A SANDBOX (cutbox-rows.mjs): the forced cells as the released guide's own fill.sh prints them over the translation 58fe77a985f60d77… (all of the seat's roots in one cut). By AI agents, Wed Nov 11 2026. No macro, syntax, notation, axiom, sorry.
-/
import Derived.Test.YtfeihojobmagnaaChecked
import GoSem.Claim
import GoSem.ClaimJoined
import GoSem.ClaimMapViews
import Derived.JoinedTies
import Derived.KernelRfl
namespace Go.Proofs.Ytfeihojobmagnaa
/- THE CELL 'sum', in the pinned program and in every row, IS THE sha256 OF THE DUMP (.gsa) THAT YtfeihojobmagnaaProg.lean LOADS. Nothing in Lean hashes anything: it is a label: what it is worth is what the hold of that sum in a sandbox is worth. -/
noncomputable def Try.pinned : Pinned := { name := "ytfeihojobmagnaa", sum := "58fe77a985f60d770a13d8cb4107eff29a354ae8e4efe305a566b48739d5d4b2", checked := Try.checked }
namespace Rows
def none {H : Type} : Left H := { results := [], args := [] }

/-- 'zoetropelaw08.SceneTells': WHATEVER THE INPUT: true; the input reads as it did. -/
def sceneTellsSpec : ChangeSpec := { name := "sceneTells", fn := fun _ => fun
  | [d1, d2] => { results := [.lit (.bool true)], args := [d1, d2] }
  | _ => none }
def sceneTellsRow : OpenClaim := { program := "ytfeihojobmagnaa", sum := "58fe77a985f60d770a13d8cb4107eff29a354ae8e4efe305a566b48739d5d4b2", func := "zoetrope/zoetropelaw08.SceneTells", spec := "sceneTells", unfollowed := true, recurses := true, apart := false }
def SceneTellsSaid : Prop := sceneTellsRow.holds Try.pinned (OpenSpec.ofChange sceneTellsSpec)

/-- ITS FALSE NEIGHBOUR: 'it returns false'. Refute it at one input. -/
def sceneTellsWrong : ChangeSpec := { name := "sceneTells", fn := fun _ => fun
  | [d1, d2] => { results := [.lit (.bool false)], args := [d1, d2] }
  | _ => none }
def SceneTellsWrongFalsely : Prop := sceneTellsRow.holds Try.pinned (OpenSpec.ofChange sceneTellsWrong)

/-- 'zoetropelaw09.JobChecks': WHATEVER THE INPUT: true; the input reads as it did. -/
def jobChecksSpec : ChangeSpec := { name := "jobChecks", fn := fun _ => fun
  | [d1, d2] => { results := [.lit (.bool true)], args := [d1, d2] }
  | _ => none }
def jobChecksRow : OpenClaim := { program := "ytfeihojobmagnaa", sum := "58fe77a985f60d770a13d8cb4107eff29a354ae8e4efe305a566b48739d5d4b2", func := "zoetrope/zoetropelaw09.JobChecks", spec := "jobChecks", unfollowed := true, recurses := true, apart := false }
def JobChecksSaid : Prop := jobChecksRow.holds Try.pinned (OpenSpec.ofChange jobChecksSpec)

/-- ITS FALSE NEIGHBOUR: 'it returns false'. Refute it at one input. -/
def jobChecksWrong : ChangeSpec := { name := "jobChecks", fn := fun _ => fun
  | [d1, d2] => { results := [.lit (.bool false)], args := [d1, d2] }
  | _ => none }
def JobChecksWrongFalsely : Prop := jobChecksRow.holds Try.pinned (OpenSpec.ofChange jobChecksWrong)

/-- 'zoetropelaw11.BoxSums': WHATEVER THE INPUT: true; the input reads as it did. -/
def boxSumsSpec : ChangeSpec := { name := "boxSums", fn := fun _ => fun
  | [d1, d2, d3] => { results := [.lit (.bool true)], args := [d1, d2, d3] }
  | _ => none }
def boxSumsRow : OpenClaim := { program := "ytfeihojobmagnaa", sum := "58fe77a985f60d770a13d8cb4107eff29a354ae8e4efe305a566b48739d5d4b2", func := "zoetrope/zoetropelaw11.BoxSums", spec := "boxSums", unfollowed := true, recurses := true, apart := false }
def BoxSumsSaid : Prop := boxSumsRow.holds Try.pinned (OpenSpec.ofChange boxSumsSpec)

/-- ITS FALSE NEIGHBOUR: 'it returns false'. Refute it at one input. -/
def boxSumsWrong : ChangeSpec := { name := "boxSums", fn := fun _ => fun
  | [d1, d2, d3] => { results := [.lit (.bool false)], args := [d1, d2, d3] }
  | _ => none }
def BoxSumsWrongFalsely : Prop := boxSumsRow.holds Try.pinned (OpenSpec.ofChange boxSumsWrong)

/-- 'zoetropelaw11.BoxTells': WHATEVER THE INPUT: true; the input reads as it did. -/
def boxTellsSpec : ChangeSpec := { name := "boxTells", fn := fun _ => fun
  | [d1, d2, d3] => { results := [.lit (.bool true)], args := [d1, d2, d3] }
  | _ => none }
def boxTellsRow : OpenClaim := { program := "ytfeihojobmagnaa", sum := "58fe77a985f60d770a13d8cb4107eff29a354ae8e4efe305a566b48739d5d4b2", func := "zoetrope/zoetropelaw11.BoxTells", spec := "boxTells", unfollowed := true, recurses := true, apart := false }
def BoxTellsSaid : Prop := boxTellsRow.holds Try.pinned (OpenSpec.ofChange boxTellsSpec)

/-- ITS FALSE NEIGHBOUR: 'it returns false'. Refute it at one input. -/
def boxTellsWrong : ChangeSpec := { name := "boxTells", fn := fun _ => fun
  | [d1, d2, d3] => { results := [.lit (.bool false)], args := [d1, d2, d3] }
  | _ => none }
def BoxTellsWrongFalsely : Prop := boxTellsRow.holds Try.pinned (OpenSpec.ofChange boxTellsWrong)

/-- 'zoetropelaw11.BoxPairs': WHATEVER THE INPUT: true; the input reads as it did. -/
def boxPairsSpec : ChangeSpec := { name := "boxPairs", fn := fun _ => fun
  | [d1, d2, d3] => { results := [.lit (.bool true)], args := [d1, d2, d3] }
  | _ => none }
def boxPairsRow : OpenClaim := { program := "ytfeihojobmagnaa", sum := "58fe77a985f60d770a13d8cb4107eff29a354ae8e4efe305a566b48739d5d4b2", func := "zoetrope/zoetropelaw11.BoxPairs", spec := "boxPairs", unfollowed := true, recurses := true, apart := false }
def BoxPairsSaid : Prop := boxPairsRow.holds Try.pinned (OpenSpec.ofChange boxPairsSpec)

/-- ITS FALSE NEIGHBOUR: 'it returns false'. Refute it at one input. -/
def boxPairsWrong : ChangeSpec := { name := "boxPairs", fn := fun _ => fun
  | [d1, d2, d3] => { results := [.lit (.bool false)], args := [d1, d2, d3] }
  | _ => none }
def BoxPairsWrongFalsely : Prop := boxPairsRow.holds Try.pinned (OpenSpec.ofChange boxPairsWrong)

/-- 'zoetropelaw11.BoxHolds': WHATEVER THE INPUT: true; the input reads as it did. -/
def boxHoldsSpec : ChangeSpec := { name := "boxHolds", fn := fun _ => fun
  | [d1, d2] => { results := [.lit (.bool true)], args := [d1, d2] }
  | _ => none }
def boxHoldsRow : OpenClaim := { program := "ytfeihojobmagnaa", sum := "58fe77a985f60d770a13d8cb4107eff29a354ae8e4efe305a566b48739d5d4b2", func := "zoetrope/zoetropelaw11.BoxHolds", spec := "boxHolds", unfollowed := true, recurses := true, apart := false }
def BoxHoldsSaid : Prop := boxHoldsRow.holds Try.pinned (OpenSpec.ofChange boxHoldsSpec)

/-- ITS FALSE NEIGHBOUR: 'it returns false'. Refute it at one input. -/
def boxHoldsWrong : ChangeSpec := { name := "boxHolds", fn := fun _ => fun
  | [d1, d2] => { results := [.lit (.bool false)], args := [d1, d2] }
  | _ => none }
def BoxHoldsWrongFalsely : Prop := boxHoldsRow.holds Try.pinned (OpenSpec.ofChange boxHoldsWrong)

/- THE SECOND FORM. 'bulk': how many values and letters a reading holds, each counted each time it is reached (what is shared counts as often as it is met; a slice's spare places count too). A statement '..UptoSaid' is the law's where the arguments, and the package variables that the reading takes, are together of bulk at most 1048576: NARROWER than '..Said'. Prove '..Said' where nothing that the law and all that it calls make is longer than what came in: it says more and counts as full. Else prove '..UptoSaid'. A law counts once. -/
mutual
def uptoBulk {H : Type} : DataW H → Nat
  | .lit (.string bytes) => bytes.length + 1
  | .lit _ => 1
  | .nil => 1
  | .ptr d => uptoBulk d + 1
  | .slice elems spare => uptoBulkAll elems + uptoBulkAll spare + 1
  | .agg parts => uptoBulkAll parts + 1
  | .iface _ d => uptoBulk d + 1
  | .map entries => uptoBulkEntries entries + 1
  | .held _ => 1
def uptoBulkAll {H : Type} : List (DataW H) → Nat
  | [] => 0
  | d :: r => uptoBulk d + uptoBulkAll r
def uptoBulkEntries {H : Type} : List (Lit × DataW H) → Nat
  | [] => 0
  | x :: r => uptoBulkEntry x + uptoBulkEntries r
def uptoBulkEntry {H : Type} : Lit × DataW H → Nat
  | (.string bytes, d) => bytes.length + uptoBulk d + 1
  | (_, d) => uptoBulk d + 1
 end
def uptoSmall : (H : Type) → List (DataW H) → Bool := fun _ ds => decide (uptoBulkAll ds ≤ 1048576)
def OpenSpec.upto (s : _root_.Go.ChangeSpec) : _root_.Go.OpenSpec := { _root_.Go.OpenSpec.ofChange s with cond := some uptoSmall }

/-- 'zoetropelaw08.SceneTells', WHERE WHAT IT READS IS OF BULK AT MOST 1048576: true; the input reads as it did. -/
def sceneTellsUptoRow : OpenClaim := { program := "ytfeihojobmagnaa", sum := "58fe77a985f60d770a13d8cb4107eff29a354ae8e4efe305a566b48739d5d4b2", func := "zoetrope/zoetropelaw08.SceneTells", spec := "sceneTells", unfollowed := true, recurses := true, apart := false, narrowed := true }
def SceneTellsUptoSaid : Prop := sceneTellsUptoRow.holds Try.pinned (OpenSpec.upto sceneTellsSpec)

/-- 'zoetropelaw09.JobChecks', WHERE WHAT IT READS IS OF BULK AT MOST 1048576: true; the input reads as it did. -/
def jobChecksUptoRow : OpenClaim := { program := "ytfeihojobmagnaa", sum := "58fe77a985f60d770a13d8cb4107eff29a354ae8e4efe305a566b48739d5d4b2", func := "zoetrope/zoetropelaw09.JobChecks", spec := "jobChecks", unfollowed := true, recurses := true, apart := false, narrowed := true }
def JobChecksUptoSaid : Prop := jobChecksUptoRow.holds Try.pinned (OpenSpec.upto jobChecksSpec)

/-- 'zoetropelaw11.BoxSums', WHERE WHAT IT READS IS OF BULK AT MOST 1048576: true; the input reads as it did. -/
def boxSumsUptoRow : OpenClaim := { program := "ytfeihojobmagnaa", sum := "58fe77a985f60d770a13d8cb4107eff29a354ae8e4efe305a566b48739d5d4b2", func := "zoetrope/zoetropelaw11.BoxSums", spec := "boxSums", unfollowed := true, recurses := true, apart := false, narrowed := true }
def BoxSumsUptoSaid : Prop := boxSumsUptoRow.holds Try.pinned (OpenSpec.upto boxSumsSpec)

/-- 'zoetropelaw11.BoxTells', WHERE WHAT IT READS IS OF BULK AT MOST 1048576: true; the input reads as it did. -/
def boxTellsUptoRow : OpenClaim := { program := "ytfeihojobmagnaa", sum := "58fe77a985f60d770a13d8cb4107eff29a354ae8e4efe305a566b48739d5d4b2", func := "zoetrope/zoetropelaw11.BoxTells", spec := "boxTells", unfollowed := true, recurses := true, apart := false, narrowed := true }
def BoxTellsUptoSaid : Prop := boxTellsUptoRow.holds Try.pinned (OpenSpec.upto boxTellsSpec)

/-- 'zoetropelaw11.BoxPairs', WHERE WHAT IT READS IS OF BULK AT MOST 1048576: true; the input reads as it did. -/
def boxPairsUptoRow : OpenClaim := { program := "ytfeihojobmagnaa", sum := "58fe77a985f60d770a13d8cb4107eff29a354ae8e4efe305a566b48739d5d4b2", func := "zoetrope/zoetropelaw11.BoxPairs", spec := "boxPairs", unfollowed := true, recurses := true, apart := false, narrowed := true }
def BoxPairsUptoSaid : Prop := boxPairsUptoRow.holds Try.pinned (OpenSpec.upto boxPairsSpec)

/-- 'zoetropelaw11.BoxHolds', WHERE WHAT IT READS IS OF BULK AT MOST 1048576: true; the input reads as it did. -/
def boxHoldsUptoRow : OpenClaim := { program := "ytfeihojobmagnaa", sum := "58fe77a985f60d770a13d8cb4107eff29a354ae8e4efe305a566b48739d5d4b2", func := "zoetrope/zoetropelaw11.BoxHolds", spec := "boxHolds", unfollowed := true, recurses := true, apart := false, narrowed := true }
def BoxHoldsUptoSaid : Prop := boxHoldsUptoRow.holds Try.pinned (OpenSpec.upto boxHoldsSpec)

end Rows
end Go.Proofs.Ytfeihojobmagnaa
