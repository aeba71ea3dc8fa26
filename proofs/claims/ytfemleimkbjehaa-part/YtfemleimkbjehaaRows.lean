/-
  No cell of these rows narrows 'for every input' (looked for: loops, veiled, ifaces, maps, wideKeys, modest, calm, conditions, laid).
  DERIVED. THE GIVEN ROWS OF THIS SEAT. 8 by the template 'for every input the law returns true; each argument reads behind the call as it read before'; 0 by the template 'total and deterministic' (their statements: YtfemleimkbjehaaTotals.lean).
  GIVEN WITH THE SEED: the statements are not yours to turn. If you find one false, say at which input.
  Laid BY PROGRAM, IN A SANDBOX (cutbox-rows.mjs): the forced cells as the released guide's own fill.sh prints them over the translation 771b5233ea115a28… (all of the seat's roots in one cut). By AI agents, Wed Nov 11 2026. No macro, syntax, notation, axiom, sorry.
-/
import Derived.Test.YtfemleimkbjehaaChecked
import GoSem.Claim
import GoSem.ClaimJoined
import GoSem.ClaimMapViews
import Derived.JoinedTies
import Derived.KernelRfl
namespace Go.Proofs.Ytfemleimkbjehaa
/- THE CELL 'sum', in the pinned program and in every row, IS THE sha256 OF THE DUMP (.gsa) THAT YtfemleimkbjehaaProg.lean LOADS. Nothing in Lean hashes anything: it is a label: what it is worth is what the hold of that sum in a sandbox is worth. -/
noncomputable def Try.pinned : Pinned := { name := "ytfemleimkbjehaa", sum := "771b5233ea115a28ead2f0d241a09c42b2077942d588bf9a77084e02b4877018", checked := Try.checked }
namespace Rows
def none {H : Type} : Left H := { results := [], args := [] }

/-- 'frontierlaw.Checks': WHATEVER THE INPUT: true; the input reads as it did. -/
def checksSpec : ChangeSpec := { name := "checks", fn := fun _ => fun
  | [d] => { results := [.lit (.bool true)], args := [d] }
  | _ => none }
def checksRow : OpenClaim := { program := "ytfemleimkbjehaa", sum := "771b5233ea115a28ead2f0d241a09c42b2077942d588bf9a77084e02b4877018", func := "frontier/frontierlaw.Checks", spec := "checks", recurses := true, apart := false }
def ChecksSaid : Prop := checksRow.holds Try.pinned (OpenSpec.ofChange checksSpec)

/-- ITS FALSE NEIGHBOUR: 'it returns false'. Refute it at one input. -/
def checksWrong : ChangeSpec := { name := "checks", fn := fun _ => fun
  | [d] => { results := [.lit (.bool false)], args := [d] }
  | _ => none }
def ChecksWrongFalsely : Prop := checksRow.holds Try.pinned (OpenSpec.ofChange checksWrong)

/-- 'frontierlaw.Distances': WHATEVER THE INPUT: true; the input reads as it did. -/
def distancesSpec : ChangeSpec := { name := "distances", fn := fun _ => fun
  | [d1, d2, d3] => { results := [.lit (.bool true)], args := [d1, d2, d3] }
  | _ => none }
def distancesRow : OpenClaim := { program := "ytfemleimkbjehaa", sum := "771b5233ea115a28ead2f0d241a09c42b2077942d588bf9a77084e02b4877018", func := "frontier/frontierlaw.Distances", spec := "distances", recurses := true, apart := false }
def DistancesSaid : Prop := distancesRow.holds Try.pinned (OpenSpec.ofChange distancesSpec)

/-- ITS FALSE NEIGHBOUR: 'it returns false'. Refute it at one input. -/
def distancesWrong : ChangeSpec := { name := "distances", fn := fun _ => fun
  | [d1, d2, d3] => { results := [.lit (.bool false)], args := [d1, d2, d3] }
  | _ => none }
def DistancesWrongFalsely : Prop := distancesRow.holds Try.pinned (OpenSpec.ofChange distancesWrong)

/-- 'frontierkeep.Rounds': WHATEVER THE INPUT: true; the input reads as it did. -/
def roundsSpec : ChangeSpec := { name := "rounds", fn := fun _ => fun
  | [d1, d2, d3, d4] => { results := [.lit (.bool true)], args := [d1, d2, d3, d4] }
  | _ => none }
def roundsRow : OpenClaim := { program := "ytfemleimkbjehaa", sum := "771b5233ea115a28ead2f0d241a09c42b2077942d588bf9a77084e02b4877018", func := "frontier/frontierkeep.Rounds", spec := "rounds", apart := false }
def RoundsSaid : Prop := roundsRow.holds Try.pinned (OpenSpec.ofChange roundsSpec)

/-- ITS FALSE NEIGHBOUR: 'it returns false'. Refute it at one input. -/
def roundsWrong : ChangeSpec := { name := "rounds", fn := fun _ => fun
  | [d1, d2, d3, d4] => { results := [.lit (.bool false)], args := [d1, d2, d3, d4] }
  | _ => none }
def RoundsWrongFalsely : Prop := roundsRow.holds Try.pinned (OpenSpec.ofChange roundsWrong)

/-- 'frontierlaw.Meanings': WHATEVER THE INPUT: true; the input reads as it did. -/
def meaningsSpec : ChangeSpec := { name := "meanings", fn := fun _ => fun
  | [d1, d2] => { results := [.lit (.bool true)], args := [d1, d2] }
  | _ => none }
def meaningsRow : OpenClaim := { program := "ytfemleimkbjehaa", sum := "771b5233ea115a28ead2f0d241a09c42b2077942d588bf9a77084e02b4877018", func := "frontier/frontierlaw.Meanings", spec := "meanings", recurses := true, apart := false }
def MeaningsSaid : Prop := meaningsRow.holds Try.pinned (OpenSpec.ofChange meaningsSpec)

/-- ITS FALSE NEIGHBOUR: 'it returns false'. Refute it at one input. -/
def meaningsWrong : ChangeSpec := { name := "meanings", fn := fun _ => fun
  | [d1, d2] => { results := [.lit (.bool false)], args := [d1, d2] }
  | _ => none }
def MeaningsWrongFalsely : Prop := meaningsRow.holds Try.pinned (OpenSpec.ofChange meaningsWrong)

/-- 'frontierkeep.Ends': WHATEVER THE INPUT: true; the input reads as it did. -/
def endsSpec : ChangeSpec := { name := "ends", fn := fun _ => fun
  | [d1, d2, d3, d4] => { results := [.lit (.bool true)], args := [d1, d2, d3, d4] }
  | _ => none }
def endsRow : OpenClaim := { program := "ytfemleimkbjehaa", sum := "771b5233ea115a28ead2f0d241a09c42b2077942d588bf9a77084e02b4877018", func := "frontier/frontierkeep.Ends", spec := "ends", apart := false }
def EndsSaid : Prop := endsRow.holds Try.pinned (OpenSpec.ofChange endsSpec)

/-- ITS FALSE NEIGHBOUR: 'it returns false'. Refute it at one input. -/
def endsWrong : ChangeSpec := { name := "ends", fn := fun _ => fun
  | [d1, d2, d3, d4] => { results := [.lit (.bool false)], args := [d1, d2, d3, d4] }
  | _ => none }
def EndsWrongFalsely : Prop := endsRow.holds Try.pinned (OpenSpec.ofChange endsWrong)

/-- 'frontierkeep.Part': WHATEVER THE INPUT: true; the input reads as it did. -/
def partSpec : ChangeSpec := { name := "part", fn := fun _ => fun
  | [d1, d2, d3] => { results := [.lit (.bool true)], args := [d1, d2, d3] }
  | _ => none }
def partRow : OpenClaim := { program := "ytfemleimkbjehaa", sum := "771b5233ea115a28ead2f0d241a09c42b2077942d588bf9a77084e02b4877018", func := "frontier/frontierkeep.Part", spec := "part", apart := false }
def PartSaid : Prop := partRow.holds Try.pinned (OpenSpec.ofChange partSpec)

/-- ITS FALSE NEIGHBOUR: 'it returns false'. Refute it at one input. -/
def partWrong : ChangeSpec := { name := "part", fn := fun _ => fun
  | [d1, d2, d3] => { results := [.lit (.bool false)], args := [d1, d2, d3] }
  | _ => none }
def PartWrongFalsely : Prop := partRow.holds Try.pinned (OpenSpec.ofChange partWrong)

/-- 'frontierkeep.Safe': WHATEVER THE INPUT: true; the input reads as it did. -/
def safeSpec : ChangeSpec := { name := "safe", fn := fun _ => fun
  | [d1, d2, d3, d4] => { results := [.lit (.bool true)], args := [d1, d2, d3, d4] }
  | _ => none }
def safeRow : OpenClaim := { program := "ytfemleimkbjehaa", sum := "771b5233ea115a28ead2f0d241a09c42b2077942d588bf9a77084e02b4877018", func := "frontier/frontierkeep.Safe", spec := "safe", apart := false }
def SafeSaid : Prop := safeRow.holds Try.pinned (OpenSpec.ofChange safeSpec)

/-- ITS FALSE NEIGHBOUR: 'it returns false'. Refute it at one input. -/
def safeWrong : ChangeSpec := { name := "safe", fn := fun _ => fun
  | [d1, d2, d3, d4] => { results := [.lit (.bool false)], args := [d1, d2, d3, d4] }
  | _ => none }
def SafeWrongFalsely : Prop := safeRow.holds Try.pinned (OpenSpec.ofChange safeWrong)

/-- 'frontierkeep.Covered': WHATEVER THE INPUT: true; the input reads as it did. -/
def coveredSpec : ChangeSpec := { name := "covered", fn := fun _ => fun
  | [d1, d2, d3, d4, d5, d6] => { results := [.lit (.bool true)], args := [d1, d2, d3, d4, d5, d6] }
  | _ => none }
def coveredRow : OpenClaim := { program := "ytfemleimkbjehaa", sum := "771b5233ea115a28ead2f0d241a09c42b2077942d588bf9a77084e02b4877018", func := "frontier/frontierkeep.Covered", spec := "covered", apart := false }
def CoveredSaid : Prop := coveredRow.holds Try.pinned (OpenSpec.ofChange coveredSpec)

/-- ITS FALSE NEIGHBOUR: 'it returns false'. Refute it at one input. -/
def coveredWrong : ChangeSpec := { name := "covered", fn := fun _ => fun
  | [d1, d2, d3, d4, d5, d6] => { results := [.lit (.bool false)], args := [d1, d2, d3, d4, d5, d6] }
  | _ => none }
def CoveredWrongFalsely : Prop := coveredRow.holds Try.pinned (OpenSpec.ofChange coveredWrong)

/- THE SECOND FORM. 'bulk': how many values and letters a reading holds, each counted each time it is reached (what is shared counts as often as it is met; a slice's spare places count too). A statement '..UptoSaid' is the law's where the arguments, and the package variables that the reading takes, are together of bulk at most 1048576: NARROWER than '..Said'. Prove '..Said' where nothing that the law and all that it calls make is longer than what came in: it says more and counts as full. Else prove '..UptoSaid'. A law counts once. -/
mutual
def uptoBulk {H : Type} : DataW H → Nat
  | .lit (.string bytes) => bytes.length + 1
  | .lit _ => 1
  | .nil => 1
  | .ptr d => uptoBulk d + 1
  | .slice elems spare => uptoBulkAll elems + uptoBulkAll spare + 1
  | .agg parts => uptoBulkAll parts + 1
  | .iface _ d => uptoBulk d + 1
  | .map entries => uptoBulkEntries entries + 1
  | .held _ => 1
def uptoBulkAll {H : Type} : List (DataW H) → Nat
  | [] => 0
  | d :: r => uptoBulk d + uptoBulkAll r
def uptoBulkEntries {H : Type} : List (Lit × DataW H) → Nat
  | [] => 0
  | x :: r => uptoBulkEntry x + uptoBulkEntries r
def uptoBulkEntry {H : Type} : Lit × DataW H → Nat
  | (.string bytes, d) => bytes.length + uptoBulk d + 1
  | (_, d) => uptoBulk d + 1
 end
def uptoSmall : (H : Type) → List (DataW H) → Bool := fun _ ds => decide (uptoBulkAll ds ≤ 1048576)
def OpenSpec.upto (s : _root_.Go.ChangeSpec) : _root_.Go.OpenSpec := { _root_.Go.OpenSpec.ofChange s with cond := some uptoSmall }

/-- 'frontierlaw.Checks', WHERE WHAT IT READS IS OF BULK AT MOST 1048576: true; the input reads as it did. -/
def checksUptoRow : OpenClaim := { program := "ytfemleimkbjehaa", sum := "771b5233ea115a28ead2f0d241a09c42b2077942d588bf9a77084e02b4877018", func := "frontier/frontierlaw.Checks", spec := "checks", recurses := true, apart := false, narrowed := true }
def ChecksUptoSaid : Prop := checksUptoRow.holds Try.pinned (OpenSpec.upto checksSpec)

/-- 'frontierlaw.Distances', WHERE WHAT IT READS IS OF BULK AT MOST 1048576: true; the input reads as it did. -/
def distancesUptoRow : OpenClaim := { program := "ytfemleimkbjehaa", sum := "771b5233ea115a28ead2f0d241a09c42b2077942d588bf9a77084e02b4877018", func := "frontier/frontierlaw.Distances", spec := "distances", recurses := true, apart := false, narrowed := true }
def DistancesUptoSaid : Prop := distancesUptoRow.holds Try.pinned (OpenSpec.upto distancesSpec)

/-- 'frontierkeep.Rounds', WHERE WHAT IT READS IS OF BULK AT MOST 1048576: true; the input reads as it did. -/
def roundsUptoRow : OpenClaim := { program := "ytfemleimkbjehaa", sum := "771b5233ea115a28ead2f0d241a09c42b2077942d588bf9a77084e02b4877018", func := "frontier/frontierkeep.Rounds", spec := "rounds", apart := false, narrowed := true }
def RoundsUptoSaid : Prop := roundsUptoRow.holds Try.pinned (OpenSpec.upto roundsSpec)

/-- 'frontierlaw.Meanings', WHERE WHAT IT READS IS OF BULK AT MOST 1048576: true; the input reads as it did. -/
def meaningsUptoRow : OpenClaim := { program := "ytfemleimkbjehaa", sum := "771b5233ea115a28ead2f0d241a09c42b2077942d588bf9a77084e02b4877018", func := "frontier/frontierlaw.Meanings", spec := "meanings", recurses := true, apart := false, narrowed := true }
def MeaningsUptoSaid : Prop := meaningsUptoRow.holds Try.pinned (OpenSpec.upto meaningsSpec)

/-- 'frontierkeep.Ends', WHERE WHAT IT READS IS OF BULK AT MOST 1048576: true; the input reads as it did. -/
def endsUptoRow : OpenClaim := { program := "ytfemleimkbjehaa", sum := "771b5233ea115a28ead2f0d241a09c42b2077942d588bf9a77084e02b4877018", func := "frontier/frontierkeep.Ends", spec := "ends", apart := false, narrowed := true }
def EndsUptoSaid : Prop := endsUptoRow.holds Try.pinned (OpenSpec.upto endsSpec)

/-- 'frontierkeep.Part', WHERE WHAT IT READS IS OF BULK AT MOST 1048576: true; the input reads as it did. -/
def partUptoRow : OpenClaim := { program := "ytfemleimkbjehaa", sum := "771b5233ea115a28ead2f0d241a09c42b2077942d588bf9a77084e02b4877018", func := "frontier/frontierkeep.Part", spec := "part", apart := false, narrowed := true }
def PartUptoSaid : Prop := partUptoRow.holds Try.pinned (OpenSpec.upto partSpec)

/-- 'frontierkeep.Safe', WHERE WHAT IT READS IS OF BULK AT MOST 1048576: true; the input reads as it did. -/
def safeUptoRow : OpenClaim := { program := "ytfemleimkbjehaa", sum := "771b5233ea115a28ead2f0d241a09c42b2077942d588bf9a77084e02b4877018", func := "frontier/frontierkeep.Safe", spec := "safe", apart := false, narrowed := true }
def SafeUptoSaid : Prop := safeUptoRow.holds Try.pinned (OpenSpec.upto safeSpec)

/-- 'frontierkeep.Covered', WHERE WHAT IT READS IS OF BULK AT MOST 1048576: true; the input reads as it did. -/
def coveredUptoRow : OpenClaim := { program := "ytfemleimkbjehaa", sum := "771b5233ea115a28ead2f0d241a09c42b2077942d588bf9a77084e02b4877018", func := "frontier/frontierkeep.Covered", spec := "covered", apart := false, narrowed := true }
def CoveredUptoSaid : Prop := coveredUptoRow.holds Try.pinned (OpenSpec.upto coveredSpec)

end Rows
end Go.Proofs.Ytfemleimkbjehaa
