/-
  No cell of these rows narrows 'for every input' (looked for: loops, veiled, ifaces, maps, wideKeys, modest, calm, conditions, laid).
  DERIVED. THE GIVEN ROWS OF THIS SEAT. 4 by the template 'for every input the law returns true; each argument reads behind the call as it read before'; 0 by the template 'total and deterministic' (their statements: YtdkppgmhhijkgaaTotals.lean).
  GIVEN WITH THE SEED: the statements are not yours to turn. If you find one false, say at which input.
  Laid BY PROGRAM, IN A SANDBOX (cutbox-rows.mjs): the forced cells as the released guide's own fill.sh prints them over the translation 1afdc4b1f8309bda… (all of the seat's roots in one cut). By AI agents, Wed Nov 11 2026. No macro, syntax, notation, axiom, sorry.
-/
import Derived.Test.YtdkppgmhhijkgaaChecked
import GoSem.Claim
import GoSem.ClaimJoined
import GoSem.ClaimMapViews
import Derived.JoinedTies
import Derived.KernelRfl
namespace Go.Proofs.Ytdkppgmhhijkgaa
/- THE CELL 'sum', in the pinned program and in every row, IS THE sha256 OF THE DUMP (.gsa) THAT YtdkppgmhhijkgaaProg.lean LOADS. Nothing in Lean hashes anything: it is a label: what it is worth is what the hold of that sum in a sandbox is worth. -/
noncomputable def Try.pinned : Pinned := { name := "ytdkppgmhhijkgaa", sum := "1afdc4b1f8309bda66cc34e4be3e0e66fbf94cc5993ca9a59a5ec391d278104d", checked := Try.checked }
namespace Rows
def none {H : Type} : Left H := { results := [], args := [] }

/-- 'garnetlaw11.BulkLoads': WHATEVER THE INPUT: true; the input reads as it did. -/
def bulkLoadsSpec : ChangeSpec := { name := "bulkLoads", fn := fun _ => fun
  | [d1, d2, d3] => { results := [.lit (.bool true)], args := [d1, d2, d3] }
  | _ => none }
def bulkLoadsRow : OpenClaim := { program := "ytdkppgmhhijkgaa", sum := "1afdc4b1f8309bda66cc34e4be3e0e66fbf94cc5993ca9a59a5ec391d278104d", func := "garnet/garnetlaw11.BulkLoads", spec := "bulkLoads", inPlace := ["internal/bytealg.Compare", "slices.overlaps[[]byte]", "slices.overlaps[int]"], unfollowed := true, recurses := true, apart := false }
def BulkLoadsSaid : Prop := bulkLoadsRow.holds Try.pinned (OpenSpec.ofChange bulkLoadsSpec)

/-- ITS FALSE NEIGHBOUR: 'it returns false'. Refute it at one input. -/
def bulkLoadsWrong : ChangeSpec := { name := "bulkLoads", fn := fun _ => fun
  | [d1, d2, d3] => { results := [.lit (.bool false)], args := [d1, d2, d3] }
  | _ => none }
def BulkLoadsWrongFalsely : Prop := bulkLoadsRow.holds Try.pinned (OpenSpec.ofChange bulkLoadsWrong)

/-- 'garnetlaw11.BulkCuts': WHATEVER THE INPUT: true; the input reads as it did. -/
def bulkCutsSpec : ChangeSpec := { name := "bulkCuts", fn := fun _ => fun
  | [d1, d2, d3, d4] => { results := [.lit (.bool true)], args := [d1, d2, d3, d4] }
  | _ => none }
def bulkCutsRow : OpenClaim := { program := "ytdkppgmhhijkgaa", sum := "1afdc4b1f8309bda66cc34e4be3e0e66fbf94cc5993ca9a59a5ec391d278104d", func := "garnet/garnetlaw11.BulkCuts", spec := "bulkCuts", inPlace := ["internal/bytealg.Compare", "slices.overlaps[[]byte]", "slices.overlaps[int]"], unfollowed := true, recurses := true, apart := false }
def BulkCutsSaid : Prop := bulkCutsRow.holds Try.pinned (OpenSpec.ofChange bulkCutsSpec)

/-- ITS FALSE NEIGHBOUR: 'it returns false'. Refute it at one input. -/
def bulkCutsWrong : ChangeSpec := { name := "bulkCuts", fn := fun _ => fun
  | [d1, d2, d3, d4] => { results := [.lit (.bool false)], args := [d1, d2, d3, d4] }
  | _ => none }
def BulkCutsWrongFalsely : Prop := bulkCutsRow.holds Try.pinned (OpenSpec.ofChange bulkCutsWrong)

/-- 'garnetlaw11.BulkJoins': WHATEVER THE INPUT: true; the input reads as it did. -/
def bulkJoinsSpec : ChangeSpec := { name := "bulkJoins", fn := fun _ => fun
  | [d1, d2, d3, d4] => { results := [.lit (.bool true)], args := [d1, d2, d3, d4] }
  | _ => none }
def bulkJoinsRow : OpenClaim := { program := "ytdkppgmhhijkgaa", sum := "1afdc4b1f8309bda66cc34e4be3e0e66fbf94cc5993ca9a59a5ec391d278104d", func := "garnet/garnetlaw11.BulkJoins", spec := "bulkJoins", inPlace := ["internal/bytealg.Compare", "slices.overlaps[[]byte]", "slices.overlaps[int]"], unfollowed := true, recurses := true, apart := false }
def BulkJoinsSaid : Prop := bulkJoinsRow.holds Try.pinned (OpenSpec.ofChange bulkJoinsSpec)

/-- ITS FALSE NEIGHBOUR: 'it returns false'. Refute it at one input. -/
def bulkJoinsWrong : ChangeSpec := { name := "bulkJoins", fn := fun _ => fun
  | [d1, d2, d3, d4] => { results := [.lit (.bool false)], args := [d1, d2, d3, d4] }
  | _ => none }
def BulkJoinsWrongFalsely : Prop := bulkJoinsRow.holds Try.pinned (OpenSpec.ofChange bulkJoinsWrong)

/-- 'garnetlaw11.BulkBack': WHATEVER THE INPUT: true; the input reads as it did. -/
def bulkBackSpec : ChangeSpec := { name := "bulkBack", fn := fun _ => fun
  | [d1, d2, d3] => { results := [.lit (.bool true)], args := [d1, d2, d3] }
  | _ => none }
def bulkBackRow : OpenClaim := { program := "ytdkppgmhhijkgaa", sum := "1afdc4b1f8309bda66cc34e4be3e0e66fbf94cc5993ca9a59a5ec391d278104d", func := "garnet/garnetlaw11.BulkBack", spec := "bulkBack", inPlace := ["internal/bytealg.Compare", "slices.overlaps[[]byte]", "slices.overlaps[int]"], unfollowed := true, recurses := true, apart := false }
def BulkBackSaid : Prop := bulkBackRow.holds Try.pinned (OpenSpec.ofChange bulkBackSpec)

/-- ITS FALSE NEIGHBOUR: 'it returns false'. Refute it at one input. -/
def bulkBackWrong : ChangeSpec := { name := "bulkBack", fn := fun _ => fun
  | [d1, d2, d3] => { results := [.lit (.bool false)], args := [d1, d2, d3] }
  | _ => none }
def BulkBackWrongFalsely : Prop := bulkBackRow.holds Try.pinned (OpenSpec.ofChange bulkBackWrong)

/- THE SECOND FORM. 'bulk': how many values and letters a reading holds, each counted each time it is reached (what is shared counts as often as it is met; a slice's spare places count too). A statement '..UptoSaid' is the law's where the arguments, and the package variables that the reading takes, are together of bulk at most 1048576: NARROWER than '..Said'. Prove '..Said' where nothing that the law and all that it calls make is longer than what came in: it says more and counts as full. Else prove '..UptoSaid'. A law counts once. -/
mutual
def uptoBulk {H : Type} : DataW H → Nat
  | .lit (.string bytes) => bytes.length + 1
  | .lit _ => 1
  | .nil => 1
  | .ptr d => uptoBulk d + 1
  | .slice elems spare => uptoBulkAll elems + uptoBulkAll spare + 1
  | .agg parts => uptoBulkAll parts + 1
  | .iface _ d => uptoBulk d + 1
  | .map entries => uptoBulkEntries entries + 1
  | .held _ => 1
def uptoBulkAll {H : Type} : List (DataW H) → Nat
  | [] => 0
  | d :: r => uptoBulk d + uptoBulkAll r
def uptoBulkEntries {H : Type} : List (Lit × DataW H) → Nat
  | [] => 0
  | x :: r => uptoBulkEntry x + uptoBulkEntries r
def uptoBulkEntry {H : Type} : Lit × DataW H → Nat
  | (.string bytes, d) => bytes.length + uptoBulk d + 1
  | (_, d) => uptoBulk d + 1
 end
def uptoSmall : (H : Type) → List (DataW H) → Bool := fun _ ds => decide (uptoBulkAll ds ≤ 1048576)
def OpenSpec.upto (s : _root_.Go.ChangeSpec) : _root_.Go.OpenSpec := { _root_.Go.OpenSpec.ofChange s with cond := some uptoSmall }

/-- 'garnetlaw11.BulkLoads', WHERE WHAT IT READS IS OF BULK AT MOST 1048576: true; the input reads as it did. -/
def bulkLoadsUptoRow : OpenClaim := { program := "ytdkppgmhhijkgaa", sum := "1afdc4b1f8309bda66cc34e4be3e0e66fbf94cc5993ca9a59a5ec391d278104d", func := "garnet/garnetlaw11.BulkLoads", spec := "bulkLoads", inPlace := ["internal/bytealg.Compare", "slices.overlaps[[]byte]", "slices.overlaps[int]"], unfollowed := true, recurses := true, apart := false, narrowed := true }
def BulkLoadsUptoSaid : Prop := bulkLoadsUptoRow.holds Try.pinned (OpenSpec.upto bulkLoadsSpec)

/-- 'garnetlaw11.BulkCuts', WHERE WHAT IT READS IS OF BULK AT MOST 1048576: true; the input reads as it did. -/
def bulkCutsUptoRow : OpenClaim := { program := "ytdkppgmhhijkgaa", sum := "1afdc4b1f8309bda66cc34e4be3e0e66fbf94cc5993ca9a59a5ec391d278104d", func := "garnet/garnetlaw11.BulkCuts", spec := "bulkCuts", inPlace := ["internal/bytealg.Compare", "slices.overlaps[[]byte]", "slices.overlaps[int]"], unfollowed := true, recurses := true, apart := false, narrowed := true }
def BulkCutsUptoSaid : Prop := bulkCutsUptoRow.holds Try.pinned (OpenSpec.upto bulkCutsSpec)

/-- 'garnetlaw11.BulkJoins', WHERE WHAT IT READS IS OF BULK AT MOST 1048576: true; the input reads as it did. -/
def bulkJoinsUptoRow : OpenClaim := { program := "ytdkppgmhhijkgaa", sum := "1afdc4b1f8309bda66cc34e4be3e0e66fbf94cc5993ca9a59a5ec391d278104d", func := "garnet/garnetlaw11.BulkJoins", spec := "bulkJoins", inPlace := ["internal/bytealg.Compare", "slices.overlaps[[]byte]", "slices.overlaps[int]"], unfollowed := true, recurses := true, apart := false, narrowed := true }
def BulkJoinsUptoSaid : Prop := bulkJoinsUptoRow.holds Try.pinned (OpenSpec.upto bulkJoinsSpec)

/-- 'garnetlaw11.BulkBack', WHERE WHAT IT READS IS OF BULK AT MOST 1048576: true; the input reads as it did. -/
def bulkBackUptoRow : OpenClaim := { program := "ytdkppgmhhijkgaa", sum := "1afdc4b1f8309bda66cc34e4be3e0e66fbf94cc5993ca9a59a5ec391d278104d", func := "garnet/garnetlaw11.BulkBack", spec := "bulkBack", inPlace := ["internal/bytealg.Compare", "slices.overlaps[[]byte]", "slices.overlaps[int]"], unfollowed := true, recurses := true, apart := false, narrowed := true }
def BulkBackUptoSaid : Prop := bulkBackUptoRow.holds Try.pinned (OpenSpec.upto bulkBackSpec)

end Rows
end Go.Proofs.Ytdkppgmhhijkgaa
