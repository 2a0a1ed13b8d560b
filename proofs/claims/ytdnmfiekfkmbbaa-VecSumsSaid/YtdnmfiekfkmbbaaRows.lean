/-
  No cell of these rows narrows 'for every input' (looked for: loops, veiled, ifaces, maps, wideKeys, modest, calm, conditions, laid).
  DERIVED. THE GIVEN ROWS OF THIS SEAT. 5 by the template 'for every input the law returns true; each argument reads behind the call as it read before'; 0 by the template 'total and deterministic' (their statements: YtdnmfiekfkmbbaaTotals.lean).
  GIVEN WITH THE SEED: the statements are not yours to turn. If you find one false, say at which input.
  Laid BY PROGRAM, IN A SANDBOX (cutbox-rows.mjs): the forced cells as the released guide's own fill.sh prints them over the translation 0b14225d4af2657a… (all of the seat's roots in one cut). By AI agents, Wed Nov 11 2026. No macro, syntax, notation, axiom, sorry.
-/
import Derived.Test.YtdnmfiekfkmbbaaChecked
import GoSem.Claim
import GoSem.ClaimJoined
import GoSem.ClaimMapViews
import Derived.JoinedTies
import Derived.KernelRfl
namespace Go.Proofs.Ytdnmfiekfkmbbaa
/- THE CELL 'sum', in the pinned program and in every row, IS THE sha256 OF THE DUMP (.gsa) THAT YtdnmfiekfkmbbaaProg.lean LOADS. Nothing in Lean hashes anything: it is a label: what it is worth is what the hold of that sum in a sandbox is worth. -/
noncomputable def Try.pinned : Pinned := { name := "ytdnmfiekfkmbbaa", sum := "0b14225d4af2657a8f7ec864e5b270bad8cb520add66af832138ba965b05db65", checked := Try.checked }
namespace Rows
def none {H : Type} : Left H := { results := [], args := [] }

/-- 'zoetropelaw02.VecSums': WHATEVER THE INPUT: true; the input reads as it did. -/
def vecSumsSpec : ChangeSpec := { name := "vecSums", fn := fun _ => fun
  | [d1, d2, d3, d4] => { results := [.lit (.bool true)], args := [d1, d2, d3, d4] }
  | _ => none }
def vecSumsRow : OpenClaim := { program := "ytdnmfiekfkmbbaa", sum := "0b14225d4af2657a8f7ec864e5b270bad8cb520add66af832138ba965b05db65", func := "zoetrope/zoetropelaw02.VecSums", spec := "vecSums", unfollowed := true, recurses := true, apart := false }
def VecSumsSaid : Prop := vecSumsRow.holds Try.pinned (OpenSpec.ofChange vecSumsSpec)

/-- ITS FALSE NEIGHBOUR: 'it returns false'. Refute it at one input. -/
def vecSumsWrong : ChangeSpec := { name := "vecSums", fn := fun _ => fun
  | [d1, d2, d3, d4] => { results := [.lit (.bool false)], args := [d1, d2, d3, d4] }
  | _ => none }
def VecSumsWrongFalsely : Prop := vecSumsRow.holds Try.pinned (OpenSpec.ofChange vecSumsWrong)

/-- 'zoetropelaw02.VecLists': WHATEVER THE INPUT: true; the input reads as it did. -/
def vecListsSpec : ChangeSpec := { name := "vecLists", fn := fun _ => fun
  | [d1, d2] => { results := [.lit (.bool true)], args := [d1, d2] }
  | _ => none }
def vecListsRow : OpenClaim := { program := "ytdnmfiekfkmbbaa", sum := "0b14225d4af2657a8f7ec864e5b270bad8cb520add66af832138ba965b05db65", func := "zoetrope/zoetropelaw02.VecLists", spec := "vecLists", unfollowed := true, recurses := true, apart := false }
def VecListsSaid : Prop := vecListsRow.holds Try.pinned (OpenSpec.ofChange vecListsSpec)

/-- ITS FALSE NEIGHBOUR: 'it returns false'. Refute it at one input. -/
def vecListsWrong : ChangeSpec := { name := "vecLists", fn := fun _ => fun
  | [d1, d2] => { results := [.lit (.bool false)], args := [d1, d2] }
  | _ => none }
def VecListsWrongFalsely : Prop := vecListsRow.holds Try.pinned (OpenSpec.ofChange vecListsWrong)

/-- 'zoetropelaw02.VecProducts': WHATEVER THE INPUT: true; the input reads as it did. -/
def vecProductsSpec : ChangeSpec := { name := "vecProducts", fn := fun _ => fun
  | [d1, d2, d3] => { results := [.lit (.bool true)], args := [d1, d2, d3] }
  | _ => none }
def vecProductsRow : OpenClaim := { program := "ytdnmfiekfkmbbaa", sum := "0b14225d4af2657a8f7ec864e5b270bad8cb520add66af832138ba965b05db65", func := "zoetrope/zoetropelaw02.VecProducts", spec := "vecProducts", unfollowed := true, recurses := true, apart := false }
def VecProductsSaid : Prop := vecProductsRow.holds Try.pinned (OpenSpec.ofChange vecProductsSpec)

/-- ITS FALSE NEIGHBOUR: 'it returns false'. Refute it at one input. -/
def vecProductsWrong : ChangeSpec := { name := "vecProducts", fn := fun _ => fun
  | [d1, d2, d3] => { results := [.lit (.bool false)], args := [d1, d2, d3] }
  | _ => none }
def VecProductsWrongFalsely : Prop := vecProductsRow.holds Try.pinned (OpenSpec.ofChange vecProductsWrong)

/-- 'zoetropelaw02.VecMats': WHATEVER THE INPUT: true; the input reads as it did. -/
def vecMatsSpec : ChangeSpec := { name := "vecMats", fn := fun _ => fun
  | [d1, d2, d3, d4] => { results := [.lit (.bool true)], args := [d1, d2, d3, d4] }
  | _ => none }
def vecMatsRow : OpenClaim := { program := "ytdnmfiekfkmbbaa", sum := "0b14225d4af2657a8f7ec864e5b270bad8cb520add66af832138ba965b05db65", func := "zoetrope/zoetropelaw02.VecMats", spec := "vecMats", unfollowed := true, recurses := true, apart := false }
def VecMatsSaid : Prop := vecMatsRow.holds Try.pinned (OpenSpec.ofChange vecMatsSpec)

/-- ITS FALSE NEIGHBOUR: 'it returns false'. Refute it at one input. -/
def vecMatsWrong : ChangeSpec := { name := "vecMats", fn := fun _ => fun
  | [d1, d2, d3, d4] => { results := [.lit (.bool false)], args := [d1, d2, d3, d4] }
  | _ => none }
def VecMatsWrongFalsely : Prop := vecMatsRow.holds Try.pinned (OpenSpec.ofChange vecMatsWrong)

/-- 'zoetropelaw02.VecChains': WHATEVER THE INPUT: true; the input reads as it did. -/
def vecChainsSpec : ChangeSpec := { name := "vecChains", fn := fun _ => fun
  | [d] => { results := [.lit (.bool true)], args := [d] }
  | _ => none }
def vecChainsRow : OpenClaim := { program := "ytdnmfiekfkmbbaa", sum := "0b14225d4af2657a8f7ec864e5b270bad8cb520add66af832138ba965b05db65", func := "zoetrope/zoetropelaw02.VecChains", spec := "vecChains", unfollowed := true, recurses := true, apart := false }
def VecChainsSaid : Prop := vecChainsRow.holds Try.pinned (OpenSpec.ofChange vecChainsSpec)

/-- ITS FALSE NEIGHBOUR: 'it returns false'. Refute it at one input. -/
def vecChainsWrong : ChangeSpec := { name := "vecChains", fn := fun _ => fun
  | [d] => { results := [.lit (.bool false)], args := [d] }
  | _ => none }
def VecChainsWrongFalsely : Prop := vecChainsRow.holds Try.pinned (OpenSpec.ofChange vecChainsWrong)

/- THE SECOND FORM. 'bulk': how many values and letters a reading holds, each counted each time it is reached (what is shared counts as often as it is met; a slice's spare places count too). A statement '..UptoSaid' is the law's where the arguments, and the package variables that the reading takes, are together of bulk at most 1048576: NARROWER than '..Said'. Prove '..Said' where nothing that the law and all that it calls make is longer than what came in: it says more and counts as full. Else prove '..UptoSaid'. A law counts once. -/
mutual
def uptoBulk {H : Type} : DataW H → Nat
  | .lit (.string bytes) => bytes.length + 1
  | .lit _ => 1
  | .nil => 1
  | .ptr d => uptoBulk d + 1
  | .slice elems spare => uptoBulkAll elems + uptoBulkAll spare + 1
  | .agg parts => uptoBulkAll parts + 1
  | .iface _ d => uptoBulk d + 1
  | .map entries => uptoBulkEntries entries + 1
  | .held _ => 1
def uptoBulkAll {H : Type} : List (DataW H) → Nat
  | [] => 0
  | d :: r => uptoBulk d + uptoBulkAll r
def uptoBulkEntries {H : Type} : List (Lit × DataW H) → Nat
  | [] => 0
  | x :: r => uptoBulkEntry x + uptoBulkEntries r
def uptoBulkEntry {H : Type} : Lit × DataW H → Nat
  | (.string bytes, d) => bytes.length + uptoBulk d + 1
  | (_, d) => uptoBulk d + 1
 end
def uptoSmall : (H : Type) → List (DataW H) → Bool := fun _ ds => decide (uptoBulkAll ds ≤ 1048576)
def OpenSpec.upto (s : _root_.Go.ChangeSpec) : _root_.Go.OpenSpec := { _root_.Go.OpenSpec.ofChange s with cond := some uptoSmall }

/-- 'zoetropelaw02.VecSums', WHERE WHAT IT READS IS OF BULK AT MOST 1048576: true; the input reads as it did. -/
def vecSumsUptoRow : OpenClaim := { program := "ytdnmfiekfkmbbaa", sum := "0b14225d4af2657a8f7ec864e5b270bad8cb520add66af832138ba965b05db65", func := "zoetrope/zoetropelaw02.VecSums", spec := "vecSums", unfollowed := true, recurses := true, apart := false, narrowed := true }
def VecSumsUptoSaid : Prop := vecSumsUptoRow.holds Try.pinned (OpenSpec.upto vecSumsSpec)

/-- 'zoetropelaw02.VecLists', WHERE WHAT IT READS IS OF BULK AT MOST 1048576: true; the input reads as it did. -/
def vecListsUptoRow : OpenClaim := { program := "ytdnmfiekfkmbbaa", sum := "0b14225d4af2657a8f7ec864e5b270bad8cb520add66af832138ba965b05db65", func := "zoetrope/zoetropelaw02.VecLists", spec := "vecLists", unfollowed := true, recurses := true, apart := false, narrowed := true }
def VecListsUptoSaid : Prop := vecListsUptoRow.holds Try.pinned (OpenSpec.upto vecListsSpec)

/-- 'zoetropelaw02.VecProducts', WHERE WHAT IT READS IS OF BULK AT MOST 1048576: true; the input reads as it did. -/
def vecProductsUptoRow : OpenClaim := { program := "ytdnmfiekfkmbbaa", sum := "0b14225d4af2657a8f7ec864e5b270bad8cb520add66af832138ba965b05db65", func := "zoetrope/zoetropelaw02.VecProducts", spec := "vecProducts", unfollowed := true, recurses := true, apart := false, narrowed := true }
def VecProductsUptoSaid : Prop := vecProductsUptoRow.holds Try.pinned (OpenSpec.upto vecProductsSpec)

/-- 'zoetropelaw02.VecMats', WHERE WHAT IT READS IS OF BULK AT MOST 1048576: true; the input reads as it did. -/
def vecMatsUptoRow : OpenClaim := { program := "ytdnmfiekfkmbbaa", sum := "0b14225d4af2657a8f7ec864e5b270bad8cb520add66af832138ba965b05db65", func := "zoetrope/zoetropelaw02.VecMats", spec := "vecMats", unfollowed := true, recurses := true, apart := false, narrowed := true }
def VecMatsUptoSaid : Prop := vecMatsUptoRow.holds Try.pinned (OpenSpec.upto vecMatsSpec)

/-- 'zoetropelaw02.VecChains', WHERE WHAT IT READS IS OF BULK AT MOST 1048576: true; the input reads as it did. -/
def vecChainsUptoRow : OpenClaim := { program := "ytdnmfiekfkmbbaa", sum := "0b14225d4af2657a8f7ec864e5b270bad8cb520add66af832138ba965b05db65", func := "zoetrope/zoetropelaw02.VecChains", spec := "vecChains", unfollowed := true, recurses := true, apart := false, narrowed := true }
def VecChainsUptoSaid : Prop := vecChainsUptoRow.holds Try.pinned (OpenSpec.upto vecChainsSpec)

end Rows
end Go.Proofs.Ytdnmfiekfkmbbaa
