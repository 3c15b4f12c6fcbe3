/-
  No cell of these rows narrows 'for every input' (looked for: loops, veiled, ifaces, maps, wideKeys, modest, calm, conditions, laid).
  DERIVED. THE GIVEN ROWS OF THIS SEAT. 7 by the template 'for every input the law returns true; each argument reads behind the call as it read before'; 0 by the template 'total and deterministic' (their statements: YtpglbakcjihohaaTotals.lean).
  GIVEN WITH THE SEED: the statements are not yours to turn. If you find one false, say at which input.
  Laid BY PROGRAM, IN A SANDBOX (cutbox-rows.mjs): the forced cells as the released guide's own fill.sh prints them over the translation f343a8c013614466… (all of the seat's roots in one cut). By AI agents, Wed Nov 11 2026. No macro, syntax, notation, axiom, sorry.
-/
import Derived.Test.YtpglbakcjihohaaChecked
import GoSem.Claim
import GoSem.ClaimJoined
import GoSem.ClaimMapViews
import Derived.JoinedTies
import Derived.KernelRfl
namespace Go.Proofs.Ytpglbakcjihohaa
/- THE CELL 'sum', in the pinned program and in every row, IS THE sha256 OF THE DUMP (.gsa) THAT YtpglbakcjihohaaProg.lean LOADS. Nothing in Lean hashes anything: it is a label: what it is worth is what the hold of that sum in a sandbox is worth. -/
noncomputable def Try.pinned : Pinned := { name := "ytpglbakcjihohaa", sum := "f343a8c013614466d4faaaf5635c88ade75c063e97fa2b413d05fcf1dfd44913", checked := Try.checked }
namespace Rows
def none {H : Type} : Left H := { results := [], args := [] }

/-- 'tributarylaw.Sketches': WHATEVER THE INPUT: true; the input reads as it did. -/
def sketchesSpec : ChangeSpec := { name := "sketches", fn := fun _ => fun
  | [d1, d2, d3, d4] => { results := [.lit (.bool true)], args := [d1, d2, d3, d4] }
  | _ => none }
def sketchesRow : OpenClaim := { program := "ytpglbakcjihohaa", sum := "f343a8c013614466d4faaaf5635c88ade75c063e97fa2b413d05fcf1dfd44913", func := "tributary/tributarylaw.Sketches", spec := "sketches", apart := false }
def SketchesSaid : Prop := sketchesRow.holds Try.pinned (OpenSpec.ofChange sketchesSpec)

/-- ITS FALSE NEIGHBOUR: 'it returns false'. Refute it at one input. -/
def sketchesWrong : ChangeSpec := { name := "sketches", fn := fun _ => fun
  | [d1, d2, d3, d4] => { results := [.lit (.bool false)], args := [d1, d2, d3, d4] }
  | _ => none }
def SketchesWrongFalsely : Prop := sketchesRow.holds Try.pinned (OpenSpec.ofChange sketchesWrong)

/-- 'tributarylaw.Tells': WHATEVER THE INPUT: true; the input reads as it did. -/
def tellsSpec : ChangeSpec := { name := "tells", fn := fun _ => fun
  | [d1, d2] => { results := [.lit (.bool true)], args := [d1, d2] }
  | _ => none }
def tellsRow : OpenClaim := { program := "ytpglbakcjihohaa", sum := "f343a8c013614466d4faaaf5635c88ade75c063e97fa2b413d05fcf1dfd44913", func := "tributary/tributarylaw.Tells", spec := "tells", apart := false }
def TellsSaid : Prop := tellsRow.holds Try.pinned (OpenSpec.ofChange tellsSpec)

/-- ITS FALSE NEIGHBOUR: 'it returns false'. Refute it at one input. -/
def tellsWrong : ChangeSpec := { name := "tells", fn := fun _ => fun
  | [d1, d2] => { results := [.lit (.bool false)], args := [d1, d2] }
  | _ => none }
def TellsWrongFalsely : Prop := tellsRow.holds Try.pinned (OpenSpec.ofChange tellsWrong)

/-- 'tributarykeep.Monoid': WHATEVER THE INPUT: true; the input reads as it did. -/
def monoidSpec : ChangeSpec := { name := "monoid", fn := fun _ => fun
  | [d1, d2, d3, d4, d5] => { results := [.lit (.bool true)], args := [d1, d2, d3, d4, d5] }
  | _ => none }
def monoidRow : OpenClaim := { program := "ytpglbakcjihohaa", sum := "f343a8c013614466d4faaaf5635c88ade75c063e97fa2b413d05fcf1dfd44913", func := "tributary/tributarykeep.Monoid", spec := "monoid", apart := false }
def MonoidSaid : Prop := monoidRow.holds Try.pinned (OpenSpec.ofChange monoidSpec)

/-- ITS FALSE NEIGHBOUR: 'it returns false'. Refute it at one input. -/
def monoidWrong : ChangeSpec := { name := "monoid", fn := fun _ => fun
  | [d1, d2, d3, d4, d5] => { results := [.lit (.bool false)], args := [d1, d2, d3, d4, d5] }
  | _ => none }
def MonoidWrongFalsely : Prop := monoidRow.holds Try.pinned (OpenSpec.ofChange monoidWrong)

/-- 'tributarykeep.Fold': WHATEVER THE INPUT: true; the input reads as it did. -/
def foldSpec : ChangeSpec := { name := "fold", fn := fun _ => fun
  | [d1, d2, d3] => { results := [.lit (.bool true)], args := [d1, d2, d3] }
  | _ => none }
def foldRow : OpenClaim := { program := "ytpglbakcjihohaa", sum := "f343a8c013614466d4faaaf5635c88ade75c063e97fa2b413d05fcf1dfd44913", func := "tributary/tributarykeep.Fold", spec := "fold", apart := false }
def FoldSaid : Prop := foldRow.holds Try.pinned (OpenSpec.ofChange foldSpec)

/-- ITS FALSE NEIGHBOUR: 'it returns false'. Refute it at one input. -/
def foldWrong : ChangeSpec := { name := "fold", fn := fun _ => fun
  | [d1, d2, d3] => { results := [.lit (.bool false)], args := [d1, d2, d3] }
  | _ => none }
def FoldWrongFalsely : Prop := foldRow.holds Try.pinned (OpenSpec.ofChange foldWrong)

/-- 'tributarykeep.Ranks': WHATEVER THE INPUT: true; the input reads as it did. -/
def ranksSpec : ChangeSpec := { name := "ranks", fn := fun _ => fun
  | [d1, d2, d3, d4] => { results := [.lit (.bool true)], args := [d1, d2, d3, d4] }
  | _ => none }
def ranksRow : OpenClaim := { program := "ytpglbakcjihohaa", sum := "f343a8c013614466d4faaaf5635c88ade75c063e97fa2b413d05fcf1dfd44913", func := "tributary/tributarykeep.Ranks", spec := "ranks", apart := false }
def RanksSaid : Prop := ranksRow.holds Try.pinned (OpenSpec.ofChange ranksSpec)

/-- ITS FALSE NEIGHBOUR: 'it returns false'. Refute it at one input. -/
def ranksWrong : ChangeSpec := { name := "ranks", fn := fun _ => fun
  | [d1, d2, d3, d4] => { results := [.lit (.bool false)], args := [d1, d2, d3, d4] }
  | _ => none }
def RanksWrongFalsely : Prop := ranksRow.holds Try.pinned (OpenSpec.ofChange ranksWrong)

/-- 'tributarykeep.Exact': WHATEVER THE INPUT: true; the input reads as it did. -/
def exactSpec : ChangeSpec := { name := "exact", fn := fun _ => fun
  | [d1, d2, d3] => { results := [.lit (.bool true)], args := [d1, d2, d3] }
  | _ => none }
def exactRow : OpenClaim := { program := "ytpglbakcjihohaa", sum := "f343a8c013614466d4faaaf5635c88ade75c063e97fa2b413d05fcf1dfd44913", func := "tributary/tributarykeep.Exact", spec := "exact", apart := false }
def ExactSaid : Prop := exactRow.holds Try.pinned (OpenSpec.ofChange exactSpec)

/-- ITS FALSE NEIGHBOUR: 'it returns false'. Refute it at one input. -/
def exactWrong : ChangeSpec := { name := "exact", fn := fun _ => fun
  | [d1, d2, d3] => { results := [.lit (.bool false)], args := [d1, d2, d3] }
  | _ => none }
def ExactWrongFalsely : Prop := exactRow.holds Try.pinned (OpenSpec.ofChange exactWrong)

/-- 'tributarykeep.Rounds': WHATEVER THE INPUT: true; the input reads as it did. -/
def roundsSpec : ChangeSpec := { name := "rounds", fn := fun _ => fun
  | [d1, d2, d3] => { results := [.lit (.bool true)], args := [d1, d2, d3] }
  | _ => none }
def roundsRow : OpenClaim := { program := "ytpglbakcjihohaa", sum := "f343a8c013614466d4faaaf5635c88ade75c063e97fa2b413d05fcf1dfd44913", func := "tributary/tributarykeep.Rounds", spec := "rounds", apart := false }
def RoundsSaid : Prop := roundsRow.holds Try.pinned (OpenSpec.ofChange roundsSpec)

/-- ITS FALSE NEIGHBOUR: 'it returns false'. Refute it at one input. -/
def roundsWrong : ChangeSpec := { name := "rounds", fn := fun _ => fun
  | [d1, d2, d3] => { results := [.lit (.bool false)], args := [d1, d2, d3] }
  | _ => none }
def RoundsWrongFalsely : Prop := roundsRow.holds Try.pinned (OpenSpec.ofChange roundsWrong)

/- THE SECOND FORM. 'bulk': how many values and letters a reading holds, each counted each time it is reached (what is shared counts as often as it is met; a slice's spare places count too). A statement '..UptoSaid' is the law's where the arguments, and the package variables that the reading takes, are together of bulk at most 1048576: NARROWER than '..Said'. Prove '..Said' where nothing that the law and all that it calls make is longer than what came in: it says more and counts as full. Else prove '..UptoSaid'. A law counts once. -/
mutual
def uptoBulk {H : Type} : DataW H → Nat
  | .lit (.string bytes) => bytes.length + 1
  | .lit _ => 1
  | .nil => 1
  | .ptr d => uptoBulk d + 1
  | .slice elems spare => uptoBulkAll elems + uptoBulkAll spare + 1
  | .agg parts => uptoBulkAll parts + 1
  | .iface _ d => uptoBulk d + 1
  | .map entries => uptoBulkEntries entries + 1
  | .held _ => 1
def uptoBulkAll {H : Type} : List (DataW H) → Nat
  | [] => 0
  | d :: r => uptoBulk d + uptoBulkAll r
def uptoBulkEntries {H : Type} : List (Lit × DataW H) → Nat
  | [] => 0
  | x :: r => uptoBulkEntry x + uptoBulkEntries r
def uptoBulkEntry {H : Type} : Lit × DataW H → Nat
  | (.string bytes, d) => bytes.length + uptoBulk d + 1
  | (_, d) => uptoBulk d + 1
 end
def uptoSmall : (H : Type) → List (DataW H) → Bool := fun _ ds => decide (uptoBulkAll ds ≤ 1048576)
def OpenSpec.upto (s : _root_.Go.ChangeSpec) : _root_.Go.OpenSpec := { _root_.Go.OpenSpec.ofChange s with cond := some uptoSmall }

/-- 'tributarylaw.Sketches', WHERE WHAT IT READS IS OF BULK AT MOST 1048576: true; the input reads as it did. -/
def sketchesUptoRow : OpenClaim := { program := "ytpglbakcjihohaa", sum := "f343a8c013614466d4faaaf5635c88ade75c063e97fa2b413d05fcf1dfd44913", func := "tributary/tributarylaw.Sketches", spec := "sketches", apart := false, narrowed := true }
def SketchesUptoSaid : Prop := sketchesUptoRow.holds Try.pinned (OpenSpec.upto sketchesSpec)

/-- 'tributarylaw.Tells', WHERE WHAT IT READS IS OF BULK AT MOST 1048576: true; the input reads as it did. -/
def tellsUptoRow : OpenClaim := { program := "ytpglbakcjihohaa", sum := "f343a8c013614466d4faaaf5635c88ade75c063e97fa2b413d05fcf1dfd44913", func := "tributary/tributarylaw.Tells", spec := "tells", apart := false, narrowed := true }
def TellsUptoSaid : Prop := tellsUptoRow.holds Try.pinned (OpenSpec.upto tellsSpec)

/-- 'tributarykeep.Monoid', WHERE WHAT IT READS IS OF BULK AT MOST 1048576: true; the input reads as it did. -/
def monoidUptoRow : OpenClaim := { program := "ytpglbakcjihohaa", sum := "f343a8c013614466d4faaaf5635c88ade75c063e97fa2b413d05fcf1dfd44913", func := "tributary/tributarykeep.Monoid", spec := "monoid", apart := false, narrowed := true }
def MonoidUptoSaid : Prop := monoidUptoRow.holds Try.pinned (OpenSpec.upto monoidSpec)

/-- 'tributarykeep.Fold', WHERE WHAT IT READS IS OF BULK AT MOST 1048576: true; the input reads as it did. -/
def foldUptoRow : OpenClaim := { program := "ytpglbakcjihohaa", sum := "f343a8c013614466d4faaaf5635c88ade75c063e97fa2b413d05fcf1dfd44913", func := "tributary/tributarykeep.Fold", spec := "fold", apart := false, narrowed := true }
def FoldUptoSaid : Prop := foldUptoRow.holds Try.pinned (OpenSpec.upto foldSpec)

/-- 'tributarykeep.Ranks', WHERE WHAT IT READS IS OF BULK AT MOST 1048576: true; the input reads as it did. -/
def ranksUptoRow : OpenClaim := { program := "ytpglbakcjihohaa", sum := "f343a8c013614466d4faaaf5635c88ade75c063e97fa2b413d05fcf1dfd44913", func := "tributary/tributarykeep.Ranks", spec := "ranks", apart := false, narrowed := true }
def RanksUptoSaid : Prop := ranksUptoRow.holds Try.pinned (OpenSpec.upto ranksSpec)

/-- 'tributarykeep.Exact', WHERE WHAT IT READS IS OF BULK AT MOST 1048576: true; the input reads as it did. -/
def exactUptoRow : OpenClaim := { program := "ytpglbakcjihohaa", sum := "f343a8c013614466d4faaaf5635c88ade75c063e97fa2b413d05fcf1dfd44913", func := "tributary/tributarykeep.Exact", spec := "exact", apart := false, narrowed := true }
def ExactUptoSaid : Prop := exactUptoRow.holds Try.pinned (OpenSpec.upto exactSpec)

/-- 'tributarykeep.Rounds', WHERE WHAT IT READS IS OF BULK AT MOST 1048576: true; the input reads as it did. -/
def roundsUptoRow : OpenClaim := { program := "ytpglbakcjihohaa", sum := "f343a8c013614466d4faaaf5635c88ade75c063e97fa2b413d05fcf1dfd44913", func := "tributary/tributarykeep.Rounds", spec := "rounds", apart := false, narrowed := true }
def RoundsUptoSaid : Prop := roundsUptoRow.holds Try.pinned (OpenSpec.upto roundsSpec)

end Rows
end Go.Proofs.Ytpglbakcjihohaa
