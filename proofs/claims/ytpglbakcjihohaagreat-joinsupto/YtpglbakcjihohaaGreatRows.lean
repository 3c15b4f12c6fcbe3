/-
  No cell of these rows narrows 'for every input' (looked for: loops, veiled, ifaces, maps, wideKeys, modest, calm, conditions, laid).
  DERIVED. THE GIVEN ROWS OF THIS SEAT. 5 by the template 'for every input the law returns true; each argument reads behind the call as it read before'; 0 by the template 'total and deterministic' (their statements: YtpglbakcjihohaaGreatTotals.lean).
  GIVEN WITH THE SEED: the statements are not yours to turn. If you find one false, say at which input.
  Laid BY PROGRAM, IN A SANDBOX (cutbox-rows.mjs): the forced cells as the released guide's own fill.sh prints them over the translation 0b2b535fc32611a9… (all of the seat's roots in one cut). By AI agents, Wed Nov 11 2026. No macro, syntax, notation, axiom, sorry.
-/
import Derived.Test.YtpglbakcjihohaaGreatChecked
import GoSem.Claim
import GoSem.ClaimJoined
import GoSem.ClaimMapViews
import Derived.JoinedTies
import Derived.KernelRfl
namespace Go.Proofs.YtpglbakcjihohaaGreat
/- THE CELL 'sum', in the pinned program and in every row, IS THE sha256 OF THE DUMP (.gsa) THAT YtpglbakcjihohaaGreatProg.lean LOADS. Nothing in Lean hashes anything: it is a label: what it is worth is what the hold of that sum in a sandbox is worth. -/
noncomputable def Tryz.pinned : Pinned := { name := "ytpglbakcjihohaagreat", sum := "0b2b535fc32611a95b62cdcdceecd1d06b82442b0a4aa96ed084fd8106ade65b", checked := Tryz.checked }
namespace Rows
def none {H : Type} : Left H := { results := [], args := [] }

/-- 'tributarylaw.Leaves': WHATEVER THE INPUT: true; the input reads as it did. -/
def leavesSpec : ChangeSpec := { name := "leaves", fn := fun _ => fun
  | [d1, d2, d3] => { results := [.lit (.bool true)], args := [d1, d2, d3] }
  | _ => none }
def leavesRow : OpenClaim := { program := "ytpglbakcjihohaagreat", sum := "0b2b535fc32611a95b62cdcdceecd1d06b82442b0a4aa96ed084fd8106ade65b", func := "tributary/tributarylaw.Leaves", spec := "leaves", apart := false }
def LeavesSaid : Prop := leavesRow.holds Tryz.pinned (OpenSpec.ofChange leavesSpec)

/-- ITS FALSE NEIGHBOUR: 'it returns false'. Refute it at one input. -/
def leavesWrong : ChangeSpec := { name := "leaves", fn := fun _ => fun
  | [d1, d2, d3] => { results := [.lit (.bool false)], args := [d1, d2, d3] }
  | _ => none }
def LeavesWrongFalsely : Prop := leavesRow.holds Tryz.pinned (OpenSpec.ofChange leavesWrong)

/-- 'tributarylaw.Stores': WHATEVER THE INPUT: true; the input reads as it did. -/
def storesSpec : ChangeSpec := { name := "stores", fn := fun _ => fun
  | [d1, d2, d3] => { results := [.lit (.bool true)], args := [d1, d2, d3] }
  | _ => none }
def storesRow : OpenClaim := { program := "ytpglbakcjihohaagreat", sum := "0b2b535fc32611a95b62cdcdceecd1d06b82442b0a4aa96ed084fd8106ade65b", func := "tributary/tributarylaw.Stores", spec := "stores", apart := false }
def StoresSaid : Prop := storesRow.holds Tryz.pinned (OpenSpec.ofChange storesSpec)

/-- ITS FALSE NEIGHBOUR: 'it returns false'. Refute it at one input. -/
def storesWrong : ChangeSpec := { name := "stores", fn := fun _ => fun
  | [d1, d2, d3] => { results := [.lit (.bool false)], args := [d1, d2, d3] }
  | _ => none }
def StoresWrongFalsely : Prop := storesRow.holds Tryz.pinned (OpenSpec.ofChange storesWrong)

/-- 'tributarylaw.Sends': WHATEVER THE INPUT: true; the input reads as it did. -/
def sendsSpec : ChangeSpec := { name := "sends", fn := fun _ => fun
  | [d1, d2, d3] => { results := [.lit (.bool true)], args := [d1, d2, d3] }
  | _ => none }
def sendsRow : OpenClaim := { program := "ytpglbakcjihohaagreat", sum := "0b2b535fc32611a95b62cdcdceecd1d06b82442b0a4aa96ed084fd8106ade65b", func := "tributary/tributarylaw.Sends", spec := "sends", apart := false }
def SendsSaid : Prop := sendsRow.holds Tryz.pinned (OpenSpec.ofChange sendsSpec)

/-- ITS FALSE NEIGHBOUR: 'it returns false'. Refute it at one input. -/
def sendsWrong : ChangeSpec := { name := "sends", fn := fun _ => fun
  | [d1, d2, d3] => { results := [.lit (.bool false)], args := [d1, d2, d3] }
  | _ => none }
def SendsWrongFalsely : Prop := sendsRow.holds Tryz.pinned (OpenSpec.ofChange sendsWrong)

/-- 'tributarylaw.Joins': WHATEVER THE INPUT: true; the input reads as it did. -/
def joinsSpec : ChangeSpec := { name := "joins", fn := fun _ => fun
  | [d1, d2, d3] => { results := [.lit (.bool true)], args := [d1, d2, d3] }
  | _ => none }
def joinsRow : OpenClaim := { program := "ytpglbakcjihohaagreat", sum := "0b2b535fc32611a95b62cdcdceecd1d06b82442b0a4aa96ed084fd8106ade65b", func := "tributary/tributarylaw.Joins", spec := "joins", apart := false }
def JoinsSaid : Prop := joinsRow.holds Tryz.pinned (OpenSpec.ofChange joinsSpec)

/-- ITS FALSE NEIGHBOUR: 'it returns false'. Refute it at one input. -/
def joinsWrong : ChangeSpec := { name := "joins", fn := fun _ => fun
  | [d1, d2, d3] => { results := [.lit (.bool false)], args := [d1, d2, d3] }
  | _ => none }
def JoinsWrongFalsely : Prop := joinsRow.holds Tryz.pinned (OpenSpec.ofChange joinsWrong)

/-- 'tributarylaw.All': WHATEVER THE INPUT: true; the input reads as it did. -/
def allSpec : ChangeSpec := { name := "all", fn := fun _ => fun
  | [d1, d2, d3] => { results := [.lit (.bool true)], args := [d1, d2, d3] }
  | _ => none }
def allRow : OpenClaim := { program := "ytpglbakcjihohaagreat", sum := "0b2b535fc32611a95b62cdcdceecd1d06b82442b0a4aa96ed084fd8106ade65b", func := "tributary/tributarylaw.All", spec := "all", apart := false }
def AllSaid : Prop := allRow.holds Tryz.pinned (OpenSpec.ofChange allSpec)

/-- ITS FALSE NEIGHBOUR: 'it returns false'. Refute it at one input. -/
def allWrong : ChangeSpec := { name := "all", fn := fun _ => fun
  | [d1, d2, d3] => { results := [.lit (.bool false)], args := [d1, d2, d3] }
  | _ => none }
def AllWrongFalsely : Prop := allRow.holds Tryz.pinned (OpenSpec.ofChange allWrong)

/- THE SECOND FORM. 'bulk': how many values and letters a reading holds, each counted each time it is reached (what is shared counts as often as it is met; a slice's spare places count too). A statement '..UptoSaid' is the law's where the arguments, and the package variables that the reading takes, are together of bulk at most 1048576: NARROWER than '..Said'. Prove '..Said' where nothing that the law and all that it calls make is longer than what came in: it says more and counts as full. Else prove '..UptoSaid'. A law counts once. -/
mutual
def uptoBulk {H : Type} : DataW H → Nat
  | .lit (.string bytes) => bytes.length + 1
  | .lit _ => 1
  | .nil => 1
  | .ptr d => uptoBulk d + 1
  | .slice elems spare => uptoBulkAll elems + uptoBulkAll spare + 1
  | .agg parts => uptoBulkAll parts + 1
  | .iface _ d => uptoBulk d + 1
  | .map entries => uptoBulkEntries entries + 1
  | .held _ => 1
def uptoBulkAll {H : Type} : List (DataW H) → Nat
  | [] => 0
  | d :: r => uptoBulk d + uptoBulkAll r
def uptoBulkEntries {H : Type} : List (Lit × DataW H) → Nat
  | [] => 0
  | x :: r => uptoBulkEntry x + uptoBulkEntries r
def uptoBulkEntry {H : Type} : Lit × DataW H → Nat
  | (.string bytes, d) => bytes.length + uptoBulk d + 1
  | (_, d) => uptoBulk d + 1
 end
def uptoSmall : (H : Type) → List (DataW H) → Bool := fun _ ds => decide (uptoBulkAll ds ≤ 1048576)
def OpenSpec.upto (s : _root_.Go.ChangeSpec) : _root_.Go.OpenSpec := { _root_.Go.OpenSpec.ofChange s with cond := some uptoSmall }

/-- 'tributarylaw.Leaves', WHERE WHAT IT READS IS OF BULK AT MOST 1048576: true; the input reads as it did. -/
def leavesUptoRow : OpenClaim := { program := "ytpglbakcjihohaagreat", sum := "0b2b535fc32611a95b62cdcdceecd1d06b82442b0a4aa96ed084fd8106ade65b", func := "tributary/tributarylaw.Leaves", spec := "leaves", apart := false, narrowed := true }
def LeavesUptoSaid : Prop := leavesUptoRow.holds Tryz.pinned (OpenSpec.upto leavesSpec)

/-- 'tributarylaw.Stores', WHERE WHAT IT READS IS OF BULK AT MOST 1048576: true; the input reads as it did. -/
def storesUptoRow : OpenClaim := { program := "ytpglbakcjihohaagreat", sum := "0b2b535fc32611a95b62cdcdceecd1d06b82442b0a4aa96ed084fd8106ade65b", func := "tributary/tributarylaw.Stores", spec := "stores", apart := false, narrowed := true }
def StoresUptoSaid : Prop := storesUptoRow.holds Tryz.pinned (OpenSpec.upto storesSpec)

/-- 'tributarylaw.Sends', WHERE WHAT IT READS IS OF BULK AT MOST 1048576: true; the input reads as it did. -/
def sendsUptoRow : OpenClaim := { program := "ytpglbakcjihohaagreat", sum := "0b2b535fc32611a95b62cdcdceecd1d06b82442b0a4aa96ed084fd8106ade65b", func := "tributary/tributarylaw.Sends", spec := "sends", apart := false, narrowed := true }
def SendsUptoSaid : Prop := sendsUptoRow.holds Tryz.pinned (OpenSpec.upto sendsSpec)

/-- 'tributarylaw.Joins', WHERE WHAT IT READS IS OF BULK AT MOST 1048576: true; the input reads as it did. -/
def joinsUptoRow : OpenClaim := { program := "ytpglbakcjihohaagreat", sum := "0b2b535fc32611a95b62cdcdceecd1d06b82442b0a4aa96ed084fd8106ade65b", func := "tributary/tributarylaw.Joins", spec := "joins", apart := false, narrowed := true }
def JoinsUptoSaid : Prop := joinsUptoRow.holds Tryz.pinned (OpenSpec.upto joinsSpec)

/-- 'tributarylaw.All', WHERE WHAT IT READS IS OF BULK AT MOST 1048576: true; the input reads as it did. -/
def allUptoRow : OpenClaim := { program := "ytpglbakcjihohaagreat", sum := "0b2b535fc32611a95b62cdcdceecd1d06b82442b0a4aa96ed084fd8106ade65b", func := "tributary/tributarylaw.All", spec := "all", apart := false, narrowed := true }
def AllUptoSaid : Prop := allUptoRow.holds Tryz.pinned (OpenSpec.upto allSpec)

end Rows
end Go.Proofs.YtpglbakcjihohaaGreat
