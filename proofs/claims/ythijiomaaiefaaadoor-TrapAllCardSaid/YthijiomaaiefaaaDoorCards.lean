/-
  DERIVED. GIVEN WITH THE SEED: THE CARDS: each row of YthijiomaaiefaaaDoorRows.lean that lists a variable, with what it lists TIED to the program's text (the seventh form; the later family's looks); each row that meets fmt, with fmt's text TOLD by the authors' own Lean function (tested against real Go, not proved from fmt's source: count such statements apart). THE CARD IS WHAT COUNTS. Prove the row's statement (the work); the ties are given (YthijiomaaiefaaaDoorTie.lean); close each card by the builder's one call (the guide's Derived/Test/ToyasCard.lean, 'card_holds'). Laid BY PROGRAM, IN A SANDBOX (cutbox-door.mjs). By AI agents, Wed Nov 11 2026. No macro, syntax, notation, axiom, sorry.
-/
import Derived.Test.YthijiomaaiefaaaDoorRows
import GoSem.ClaimSeven
namespace Go.Proofs.YthijiomaaiefaaaDoor
namespace Rows

/-- THE TIED CARD OF 'garnetlaw04.TrapCalls'. -/
def trapCallsCard : Claim7 := { stood := { row := trapCallsRow, standIns := [], harness := (true, "a0e1918d818f958f3d358f37eb9b1027c11e30a40ec944330c54c2e22dafe99b"), looks := true }, kinds := [], alts := [], laidByText := true, laidKinds := [.data, .data, .data, .handle], laidTests := true, laidLooks := .later }
def TrapCallsCardSaid : Prop := Claim7.holds Tryd.pinned (.plain (OpenSpec.ofChange trapCallsSpec)) trapCallsCard

/-- THE TIED CARD OF 'garnetlaw04.TrapAll'. -/
def trapAllCard : Claim7 := { stood := { row := trapAllRow, standIns := [], harness := (true, "a0e1918d818f958f3d358f37eb9b1027c11e30a40ec944330c54c2e22dafe99b"), looks := true }, kinds := [], alts := [], laidByText := true, laidKinds := [.data, .data, .data, .handle], laidTests := true, laidLooks := .later }
def TrapAllCardSaid : Prop := Claim7.holds Tryd.pinned (.plain (OpenSpec.ofChange trapAllSpec)) trapAllCard

/-- THE SECOND FORM's CARD OF 'garnetlaw04.TrapCalls'. -/
def trapCallsUptoCard : Claim7 := { stood := { row := trapCallsUptoRow, standIns := [], harness := (true, "a0e1918d818f958f3d358f37eb9b1027c11e30a40ec944330c54c2e22dafe99b"), looks := true }, kinds := [], alts := [], laidByText := true, laidKinds := [.data, .data, .data, .handle], laidTests := true, laidLooks := .later }
def TrapCallsUptoCardSaid : Prop := Claim7.holds Tryd.pinned (.plain (OpenSpec.upto trapCallsSpec)) trapCallsUptoCard

/-- THE SECOND FORM's CARD OF 'garnetlaw04.TrapAll'. -/
def trapAllUptoCard : Claim7 := { stood := { row := trapAllUptoRow, standIns := [], harness := (true, "a0e1918d818f958f3d358f37eb9b1027c11e30a40ec944330c54c2e22dafe99b"), looks := true }, kinds := [], alts := [], laidByText := true, laidKinds := [.data, .data, .data, .handle], laidTests := true, laidLooks := .later }
def TrapAllUptoCardSaid : Prop := Claim7.holds Tryd.pinned (.plain (OpenSpec.upto trapAllSpec)) trapAllUptoCard
end Rows
end Go.Proofs.YthijiomaaiefaaaDoor
