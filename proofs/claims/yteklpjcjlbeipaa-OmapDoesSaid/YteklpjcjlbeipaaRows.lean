/-
  No cell of these rows narrows 'for every input' (looked for: loops, veiled, ifaces, maps, wideKeys, modest, calm, conditions, laid).
  DERIVED. THE GIVEN ROWS OF THIS SEAT. 3 by the template 'for every input the law returns true; each argument reads behind the call as it read before'; 0 by the template 'total and deterministic' (their statements: YteklpjcjlbeipaaTotals.lean).
  GIVEN WITH THE SEED: the statements are not yours to turn. If you find one false, say at which input.
  Laid BY PROGRAM, IN A SANDBOX (cutbox-rows.mjs): the forced cells as the released guide's own fill.sh prints them over the translation 8ad9f46bac49e16e… (all of the seat's roots in one cut). By AI agents, Wed Nov 11 2026. No macro, syntax, notation, axiom, sorry.
-/
import Derived.Test.YteklpjcjlbeipaaChecked
import GoSem.Claim
import GoSem.ClaimJoined
import GoSem.ClaimMapViews
import Derived.JoinedTies
import Derived.KernelRfl
namespace Go.Proofs.Yteklpjcjlbeipaa
/- THE CELL 'sum', in the pinned program and in every row, IS THE sha256 OF THE DUMP (.gsa) THAT YteklpjcjlbeipaaProg.lean LOADS. Nothing in Lean hashes anything: it is a label: what it is worth is what the hold of that sum in a sandbox is worth. -/
noncomputable def Try.pinned : Pinned := { name := "yteklpjcjlbeipaa", sum := "8ad9f46bac49e16e948502c55b07b6ce90303736e248cd0bbc36e19cf06d8dcc", checked := Try.checked }
namespace Rows
def none {H : Type} : Left H := { results := [], args := [] }

/-- 'garnetlaw12.OmapDoes': WHATEVER THE INPUT: true; the input reads as it did. -/
def omapDoesSpec : ChangeSpec := { name := "omapDoes", fn := fun _ => fun
  | [d1, d2, d3] => { results := [.lit (.bool true)], args := [d1, d2, d3] }
  | _ => none }
def omapDoesRow : OpenClaim := { program := "yteklpjcjlbeipaa", sum := "8ad9f46bac49e16e948502c55b07b6ce90303736e248cd0bbc36e19cf06d8dcc", func := "garnet/garnetlaw12.OmapDoes", spec := "omapDoes", inPlace := ["internal/bytealg.Compare"], unfollowed := true, recurses := true, apart := false }
def OmapDoesSaid : Prop := omapDoesRow.holds Try.pinned (OpenSpec.ofChange omapDoesSpec)

/-- ITS FALSE NEIGHBOUR: 'it returns false'. Refute it at one input. -/
def omapDoesWrong : ChangeSpec := { name := "omapDoes", fn := fun _ => fun
  | [d1, d2, d3] => { results := [.lit (.bool false)], args := [d1, d2, d3] }
  | _ => none }
def OmapDoesWrongFalsely : Prop := omapDoesRow.holds Try.pinned (OpenSpec.ofChange omapDoesWrong)

/-- 'garnetlaw12.OmapErrs': WHATEVER THE INPUT: true; the input reads as it did. -/
def omapErrsSpec : ChangeSpec := { name := "omapErrs", fn := fun _ => fun
  | [d1, d2, d3] => { results := [.lit (.bool true)], args := [d1, d2, d3] }
  | _ => none }
def omapErrsRow : OpenClaim := { program := "yteklpjcjlbeipaa", sum := "8ad9f46bac49e16e948502c55b07b6ce90303736e248cd0bbc36e19cf06d8dcc", func := "garnet/garnetlaw12.OmapErrs", spec := "omapErrs", inPlace := ["internal/bytealg.Compare"], unfollowed := true, recurses := true, apart := false }
def OmapErrsSaid : Prop := omapErrsRow.holds Try.pinned (OpenSpec.ofChange omapErrsSpec)

/-- ITS FALSE NEIGHBOUR: 'it returns false'. Refute it at one input. -/
def omapErrsWrong : ChangeSpec := { name := "omapErrs", fn := fun _ => fun
  | [d1, d2, d3] => { results := [.lit (.bool false)], args := [d1, d2, d3] }
  | _ => none }
def OmapErrsWrongFalsely : Prop := omapErrsRow.holds Try.pinned (OpenSpec.ofChange omapErrsWrong)

/-- 'garnetlaw12.OmapTurns': WHATEVER THE INPUT: true; the input reads as it did. -/
def omapTurnsSpec : ChangeSpec := { name := "omapTurns", fn := fun _ => fun
  | [d1, d2, d3] => { results := [.lit (.bool true)], args := [d1, d2, d3] }
  | _ => none }
def omapTurnsRow : OpenClaim := { program := "yteklpjcjlbeipaa", sum := "8ad9f46bac49e16e948502c55b07b6ce90303736e248cd0bbc36e19cf06d8dcc", func := "garnet/garnetlaw12.OmapTurns", spec := "omapTurns", inPlace := ["internal/bytealg.Compare"], unfollowed := true, recurses := true, apart := false }
def OmapTurnsSaid : Prop := omapTurnsRow.holds Try.pinned (OpenSpec.ofChange omapTurnsSpec)

/-- ITS FALSE NEIGHBOUR: 'it returns false'. Refute it at one input. -/
def omapTurnsWrong : ChangeSpec := { name := "omapTurns", fn := fun _ => fun
  | [d1, d2, d3] => { results := [.lit (.bool false)], args := [d1, d2, d3] }
  | _ => none }
def OmapTurnsWrongFalsely : Prop := omapTurnsRow.holds Try.pinned (OpenSpec.ofChange omapTurnsWrong)

/- THE SECOND FORM. 'bulk': how many values and letters a reading holds, each counted each time it is reached (what is shared counts as often as it is met; a slice's spare places count too). A statement '..UptoSaid' is the law's where the arguments, and the package variables that the reading takes, are together of bulk at most 1048576: NARROWER than '..Said'. Prove '..Said' where nothing that the law and all that it calls make is longer than what came in: it says more and counts as full. Else prove '..UptoSaid'. A law counts once. -/
mutual
def uptoBulk {H : Type} : DataW H → Nat
  | .lit (.string bytes) => bytes.length + 1
  | .lit _ => 1
  | .nil => 1
  | .ptr d => uptoBulk d + 1
  | .slice elems spare => uptoBulkAll elems + uptoBulkAll spare + 1
  | .agg parts => uptoBulkAll parts + 1
  | .iface _ d => uptoBulk d + 1
  | .map entries => uptoBulkEntries entries + 1
  | .held _ => 1
def uptoBulkAll {H : Type} : List (DataW H) → Nat
  | [] => 0
  | d :: r => uptoBulk d + uptoBulkAll r
def uptoBulkEntries {H : Type} : List (Lit × DataW H) → Nat
  | [] => 0
  | x :: r => uptoBulkEntry x + uptoBulkEntries r
def uptoBulkEntry {H : Type} : Lit × DataW H → Nat
  | (.string bytes, d) => bytes.length + uptoBulk d + 1
  | (_, d) => uptoBulk d + 1
 end
def uptoSmall : (H : Type) → List (DataW H) → Bool := fun _ ds => decide (uptoBulkAll ds ≤ 1048576)
def OpenSpec.upto (s : _root_.Go.ChangeSpec) : _root_.Go.OpenSpec := { _root_.Go.OpenSpec.ofChange s with cond := some uptoSmall }

/-- 'garnetlaw12.OmapDoes', WHERE WHAT IT READS IS OF BULK AT MOST 1048576: true; the input reads as it did. -/
def omapDoesUptoRow : OpenClaim := { program := "yteklpjcjlbeipaa", sum := "8ad9f46bac49e16e948502c55b07b6ce90303736e248cd0bbc36e19cf06d8dcc", func := "garnet/garnetlaw12.OmapDoes", spec := "omapDoes", inPlace := ["internal/bytealg.Compare"], unfollowed := true, recurses := true, apart := false, narrowed := true }
def OmapDoesUptoSaid : Prop := omapDoesUptoRow.holds Try.pinned (OpenSpec.upto omapDoesSpec)

/-- 'garnetlaw12.OmapErrs', WHERE WHAT IT READS IS OF BULK AT MOST 1048576: true; the input reads as it did. -/
def omapErrsUptoRow : OpenClaim := { program := "yteklpjcjlbeipaa", sum := "8ad9f46bac49e16e948502c55b07b6ce90303736e248cd0bbc36e19cf06d8dcc", func := "garnet/garnetlaw12.OmapErrs", spec := "omapErrs", inPlace := ["internal/bytealg.Compare"], unfollowed := true, recurses := true, apart := false, narrowed := true }
def OmapErrsUptoSaid : Prop := omapErrsUptoRow.holds Try.pinned (OpenSpec.upto omapErrsSpec)

/-- 'garnetlaw12.OmapTurns', WHERE WHAT IT READS IS OF BULK AT MOST 1048576: true; the input reads as it did. -/
def omapTurnsUptoRow : OpenClaim := { program := "yteklpjcjlbeipaa", sum := "8ad9f46bac49e16e948502c55b07b6ce90303736e248cd0bbc36e19cf06d8dcc", func := "garnet/garnetlaw12.OmapTurns", spec := "omapTurns", inPlace := ["internal/bytealg.Compare"], unfollowed := true, recurses := true, apart := false, narrowed := true }
def OmapTurnsUptoSaid : Prop := omapTurnsUptoRow.holds Try.pinned (OpenSpec.upto omapTurnsSpec)

end Rows
end Go.Proofs.Yteklpjcjlbeipaa
