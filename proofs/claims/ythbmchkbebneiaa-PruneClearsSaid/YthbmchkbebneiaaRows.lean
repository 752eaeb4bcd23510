/-
  No cell of these rows narrows 'for every input' (looked for: loops, veiled, ifaces, maps, wideKeys, modest, calm, conditions, laid).
  DERIVED. THE GIVEN ROWS OF THIS SEAT. 3 by the template 'for every input the law returns true; each argument reads behind the call as it read before'; 0 by the template 'total and deterministic' (their statements: YthbmchkbebneiaaTotals.lean).
  GIVEN WITH THE SEED: the statements are not yours to turn. If you find one false, say at which input.
  Laid BY PROGRAM, IN A SANDBOX (cutbox-rows.mjs): the forced cells as the released guide's own fill.sh prints them over the translation a59d14d5633ebc7e… (all of the seat's roots in one cut). By AI agents, Wed Nov 11 2026. No macro, syntax, notation, axiom, sorry.
-/
import Derived.Test.YthbmchkbebneiaaChecked
import GoSem.Claim
import GoSem.ClaimJoined
import GoSem.ClaimMapViews
import Derived.JoinedTies
import Derived.KernelRfl
namespace Go.Proofs.Ythbmchkbebneiaa
/- THE CELL 'sum', in the pinned program and in every row, IS THE sha256 OF THE DUMP (.gsa) THAT YthbmchkbebneiaaProg.lean LOADS. Nothing in Lean hashes anything: it is a label: what it is worth is what the hold of that sum in a sandbox is worth. -/
noncomputable def Try.pinned : Pinned := { name := "ythbmchkbebneiaa", sum := "a59d14d5633ebc7e0990940c9e9682af3d2e03d27c4978a821b914b72bbb93c1", checked := Try.checked }
namespace Rows
def none {H : Type} : Left H := { results := [], args := [] }

/-- 'garnetlaw09.PruneDeletes': WHATEVER THE INPUT: true; the input reads as it did. -/
def pruneDeletesSpec : ChangeSpec := { name := "pruneDeletes", fn := fun _ => fun
  | [d1, d2, d3] => { results := [.lit (.bool true)], args := [d1, d2, d3] }
  | _ => none }
def pruneDeletesRow : OpenClaim := { program := "ythbmchkbebneiaa", sum := "a59d14d5633ebc7e0990940c9e9682af3d2e03d27c4978a821b914b72bbb93c1", func := "garnet/garnetlaw09.PruneDeletes", spec := "pruneDeletes", inPlace := ["internal/bytealg.Compare", "slices.overlaps[[]byte]", "slices.overlaps[int]"], unfollowed := true, recurses := true, apart := false }
def PruneDeletesSaid : Prop := pruneDeletesRow.holds Try.pinned (OpenSpec.ofChange pruneDeletesSpec)

/-- ITS FALSE NEIGHBOUR: 'it returns false'. Refute it at one input. -/
def pruneDeletesWrong : ChangeSpec := { name := "pruneDeletes", fn := fun _ => fun
  | [d1, d2, d3] => { results := [.lit (.bool false)], args := [d1, d2, d3] }
  | _ => none }
def PruneDeletesWrongFalsely : Prop := pruneDeletesRow.holds Try.pinned (OpenSpec.ofChange pruneDeletesWrong)

/-- 'garnetlaw09.PruneClears': WHATEVER THE INPUT: true; the input reads as it did. -/
def pruneClearsSpec : ChangeSpec := { name := "pruneClears", fn := fun _ => fun
  | [d1, d2, d3] => { results := [.lit (.bool true)], args := [d1, d2, d3] }
  | _ => none }
def pruneClearsRow : OpenClaim := { program := "ythbmchkbebneiaa", sum := "a59d14d5633ebc7e0990940c9e9682af3d2e03d27c4978a821b914b72bbb93c1", func := "garnet/garnetlaw09.PruneClears", spec := "pruneClears", inPlace := ["internal/bytealg.Compare", "slices.overlaps[[]byte]", "slices.overlaps[int]"], unfollowed := true, recurses := true, apart := false }
def PruneClearsSaid : Prop := pruneClearsRow.holds Try.pinned (OpenSpec.ofChange pruneClearsSpec)

/-- ITS FALSE NEIGHBOUR: 'it returns false'. Refute it at one input. -/
def pruneClearsWrong : ChangeSpec := { name := "pruneClears", fn := fun _ => fun
  | [d1, d2, d3] => { results := [.lit (.bool false)], args := [d1, d2, d3] }
  | _ => none }
def PruneClearsWrongFalsely : Prop := pruneClearsRow.holds Try.pinned (OpenSpec.ofChange pruneClearsWrong)

/-- 'garnetlaw09.PruneAll': WHATEVER THE INPUT: true; the input reads as it did. -/
def pruneAllSpec : ChangeSpec := { name := "pruneAll", fn := fun _ => fun
  | [d1, d2, d3] => { results := [.lit (.bool true)], args := [d1, d2, d3] }
  | _ => none }
def pruneAllRow : OpenClaim := { program := "ythbmchkbebneiaa", sum := "a59d14d5633ebc7e0990940c9e9682af3d2e03d27c4978a821b914b72bbb93c1", func := "garnet/garnetlaw09.PruneAll", spec := "pruneAll", inPlace := ["internal/bytealg.Compare", "slices.overlaps[[]byte]", "slices.overlaps[int]"], unfollowed := true, recurses := true, apart := false }
def PruneAllSaid : Prop := pruneAllRow.holds Try.pinned (OpenSpec.ofChange pruneAllSpec)

/-- ITS FALSE NEIGHBOUR: 'it returns false'. Refute it at one input. -/
def pruneAllWrong : ChangeSpec := { name := "pruneAll", fn := fun _ => fun
  | [d1, d2, d3] => { results := [.lit (.bool false)], args := [d1, d2, d3] }
  | _ => none }
def PruneAllWrongFalsely : Prop := pruneAllRow.holds Try.pinned (OpenSpec.ofChange pruneAllWrong)

/- THE SECOND FORM. 'bulk': how many values and letters a reading holds, each counted each time it is reached (what is shared counts as often as it is met; a slice's spare places count too). A statement '..UptoSaid' is the law's where the arguments, and the package variables that the reading takes, are together of bulk at most 1048576: NARROWER than '..Said'. Prove '..Said' where nothing that the law and all that it calls make is longer than what came in: it says more and counts as full. Else prove '..UptoSaid'. A law counts once. -/
mutual
def uptoBulk {H : Type} : DataW H → Nat
  | .lit (.string bytes) => bytes.length + 1
  | .lit _ => 1
  | .nil => 1
  | .ptr d => uptoBulk d + 1
  | .slice elems spare => uptoBulkAll elems + uptoBulkAll spare + 1
  | .agg parts => uptoBulkAll parts + 1
  | .iface _ d => uptoBulk d + 1
  | .map entries => uptoBulkEntries entries + 1
  | .held _ => 1
def uptoBulkAll {H : Type} : List (DataW H) → Nat
  | [] => 0
  | d :: r => uptoBulk d + uptoBulkAll r
def uptoBulkEntries {H : Type} : List (Lit × DataW H) → Nat
  | [] => 0
  | x :: r => uptoBulkEntry x + uptoBulkEntries r
def uptoBulkEntry {H : Type} : Lit × DataW H → Nat
  | (.string bytes, d) => bytes.length + uptoBulk d + 1
  | (_, d) => uptoBulk d + 1
 end
def uptoSmall : (H : Type) → List (DataW H) → Bool := fun _ ds => decide (uptoBulkAll ds ≤ 1048576)
def OpenSpec.upto (s : _root_.Go.ChangeSpec) : _root_.Go.OpenSpec := { _root_.Go.OpenSpec.ofChange s with cond := some uptoSmall }

/-- 'garnetlaw09.PruneDeletes', WHERE WHAT IT READS IS OF BULK AT MOST 1048576: true; the input reads as it did. -/
def pruneDeletesUptoRow : OpenClaim := { program := "ythbmchkbebneiaa", sum := "a59d14d5633ebc7e0990940c9e9682af3d2e03d27c4978a821b914b72bbb93c1", func := "garnet/garnetlaw09.PruneDeletes", spec := "pruneDeletes", inPlace := ["internal/bytealg.Compare", "slices.overlaps[[]byte]", "slices.overlaps[int]"], unfollowed := true, recurses := true, apart := false, narrowed := true }
def PruneDeletesUptoSaid : Prop := pruneDeletesUptoRow.holds Try.pinned (OpenSpec.upto pruneDeletesSpec)

/-- 'garnetlaw09.PruneClears', WHERE WHAT IT READS IS OF BULK AT MOST 1048576: true; the input reads as it did. -/
def pruneClearsUptoRow : OpenClaim := { program := "ythbmchkbebneiaa", sum := "a59d14d5633ebc7e0990940c9e9682af3d2e03d27c4978a821b914b72bbb93c1", func := "garnet/garnetlaw09.PruneClears", spec := "pruneClears", inPlace := ["internal/bytealg.Compare", "slices.overlaps[[]byte]", "slices.overlaps[int]"], unfollowed := true, recurses := true, apart := false, narrowed := true }
def PruneClearsUptoSaid : Prop := pruneClearsUptoRow.holds Try.pinned (OpenSpec.upto pruneClearsSpec)

/-- 'garnetlaw09.PruneAll', WHERE WHAT IT READS IS OF BULK AT MOST 1048576: true; the input reads as it did. -/
def pruneAllUptoRow : OpenClaim := { program := "ythbmchkbebneiaa", sum := "a59d14d5633ebc7e0990940c9e9682af3d2e03d27c4978a821b914b72bbb93c1", func := "garnet/garnetlaw09.PruneAll", spec := "pruneAll", inPlace := ["internal/bytealg.Compare", "slices.overlaps[[]byte]", "slices.overlaps[int]"], unfollowed := true, recurses := true, apart := false, narrowed := true }
def PruneAllUptoSaid : Prop := pruneAllUptoRow.holds Try.pinned (OpenSpec.upto pruneAllSpec)

end Rows
end Go.Proofs.Ythbmchkbebneiaa
