/-
  NARROWER THAN 'FOR EVERY INPUT', by the rows' own cells (each row's printed sentence says how): Checks: laid · Runs: laid · Reckoned: laid · Looped: laid.
  DERIVED. THE GIVEN ROWS OF THIS SEAT. 4 by the template 'for every input the law returns true; each argument reads behind the call as it read before'; 0 by the template 'total and deterministic' (their statements: YtedkjanogjglkaaDoorTotals.lean).
  GIVEN WITH THE SEED: the statements are not yours to turn. If you find one false, say at which input.
  Laid BY PROGRAM, IN A SANDBOX (cutbox-rows.mjs): the forced cells as the released guide's own fill.sh prints them over the translation 917e30448a5342cf… (all of the seat's roots in one cut). By AI agents, Wed Nov 11 2026. No macro, syntax, notation, axiom, sorry.
-/
import Derived.Test.YtedkjanogjglkaaDoorChecked
import GoSem.Claim
import GoSem.ClaimJoined
import GoSem.ClaimMapViews
import Derived.JoinedTies
import Derived.KernelRfl
namespace Go.Proofs.YtedkjanogjglkaaDoor
/- THE CELL 'sum', in the pinned program and in every row, IS THE sha256 OF THE DUMP (.gsa) THAT YtedkjanogjglkaaDoorProg.lean LOADS. Nothing in Lean hashes anything: it is a label: what it is worth is what the hold of that sum in a sandbox is worth. -/
noncomputable def Tryd.pinned : Pinned := { name := "ytedkjanogjglkaadoor", sum := "917e30448a5342cfee7c44610853893f6ef5a30979601148de4b98ee9e47fe12", checked := Tryd.checked }
namespace Rows
def none {H : Type} : Left H := { results := [], args := [] }

/- WHAT THE LISTED PACKAGE-LEVEL VARIABLES READ AS WHEN THE CALL BEGINS. Each datum BY PROGRAM (the guide's laid-datum.mjs) off the statement by which the dump's own 'gosem.cut.vars' lays the variable. In a bare row this is a premise. The card (YtedkjanogjglkaaDoorCards.lean) ties it to the program's text. -/
def laid_chisel_code_opTable {H : Type} : DataW H := .agg [.agg [.lit (.string [97, 100, 100]), .lit (.int .i64 2), .lit (.int .i64 4)], .agg [.lit (.string [115, 117, 98]), .lit (.int .i64 2), .lit (.int .i64 4)], .agg [.lit (.string [109, 117, 108]), .lit (.int .i64 2), .lit (.int .i64 12)], .agg [.lit (.string [100, 105, 118]), .lit (.int .i64 2), .lit (.int .i64 20)], .agg [.lit (.string [97, 110, 100]), .lit (.int .i64 2), .lit (.int .i64 4)], .agg [.lit (.string [111, 114]), .lit (.int .i64 2), .lit (.int .i64 4)], .agg [.lit (.string [120, 111, 114]), .lit (.int .i64 2), .lit (.int .i64 4)], .agg [.lit (.string [115, 104, 108]), .lit (.int .i64 2), .lit (.int .i64 5)], .agg [.lit (.string [115, 104, 114]), .lit (.int .i64 2), .lit (.int .i64 5)], .agg [.lit (.string [101, 113]), .lit (.int .i64 2), .lit (.int .i64 4)], .agg [.lit (.string [108, 116]), .lit (.int .i64 2), .lit (.int .i64 4)], .agg [.lit (.string [110, 101, 103]), .lit (.int .i64 1), .lit (.int .i64 3)], .agg [.lit (.string [110, 111, 116]), .lit (.int .i64 1), .lit (.int .i64 3)]]

/-- 'chisellaw.Checks': WHATEVER THE INPUT: true; the input reads as it did. -/
def checksSpec : ChangeSpec := { name := "checks", fn := fun _ => fun
  | [d] => { results := [.lit (.bool true)], args := [d] }
  | _ => none }
def checksRow : OpenClaim := { program := "ytedkjanogjglkaadoor", sum := "917e30448a5342cfee7c44610853893f6ef5a30979601148de4b98ee9e47fe12", func := "chisel/chisellaw.Checks", spec := "checks", unfollowed := true, recurses := true, named := ["chisel/code.opTable"], plainKeys := false, apart := false, laid := [("chisel/code.opTable", laid_chisel_code_opTable)] }
def ChecksSaid : Prop := checksRow.holds Tryd.pinned (OpenSpec.ofChange checksSpec)

/-- ITS FALSE NEIGHBOUR: 'it returns false'. Refute it at one input. -/
def checksWrong : ChangeSpec := { name := "checks", fn := fun _ => fun
  | [d] => { results := [.lit (.bool false)], args := [d] }
  | _ => none }
def ChecksWrongFalsely : Prop := checksRow.holds Tryd.pinned (OpenSpec.ofChange checksWrong)

/-- 'chisellaw.Runs': WHATEVER THE INPUT: true; the input reads as it did. -/
def runsSpec : ChangeSpec := { name := "runs", fn := fun _ => fun
  | [d1, d2, d3] => { results := [.lit (.bool true)], args := [d1, d2, d3] }
  | _ => none }
def runsRow : OpenClaim := { program := "ytedkjanogjglkaadoor", sum := "917e30448a5342cfee7c44610853893f6ef5a30979601148de4b98ee9e47fe12", func := "chisel/chisellaw.Runs", spec := "runs", unfollowed := true, recurses := true, named := ["chisel/code.opTable"], plainKeys := false, apart := false, laid := [("chisel/code.opTable", laid_chisel_code_opTable)] }
def RunsSaid : Prop := runsRow.holds Tryd.pinned (OpenSpec.ofChange runsSpec)

/-- ITS FALSE NEIGHBOUR: 'it returns false'. Refute it at one input. -/
def runsWrong : ChangeSpec := { name := "runs", fn := fun _ => fun
  | [d1, d2, d3] => { results := [.lit (.bool false)], args := [d1, d2, d3] }
  | _ => none }
def RunsWrongFalsely : Prop := runsRow.holds Tryd.pinned (OpenSpec.ofChange runsWrong)

/-- 'chiselkeep.Reckoned': WHATEVER THE INPUT: true; the input reads as it did. -/
def reckonedSpec : ChangeSpec := { name := "reckoned", fn := fun _ => fun
  | [d1, d2, d3] => { results := [.lit (.bool true)], args := [d1, d2, d3] }
  | _ => none }
def reckonedRow : OpenClaim := { program := "ytedkjanogjglkaadoor", sum := "917e30448a5342cfee7c44610853893f6ef5a30979601148de4b98ee9e47fe12", func := "chisel/chiselkeep.Reckoned", spec := "reckoned", unfollowed := true, recurses := true, named := ["chisel/code.opTable"], plainKeys := false, apart := false, laid := [("chisel/code.opTable", laid_chisel_code_opTable)] }
def ReckonedSaid : Prop := reckonedRow.holds Tryd.pinned (OpenSpec.ofChange reckonedSpec)

/-- ITS FALSE NEIGHBOUR: 'it returns false'. Refute it at one input. -/
def reckonedWrong : ChangeSpec := { name := "reckoned", fn := fun _ => fun
  | [d1, d2, d3] => { results := [.lit (.bool false)], args := [d1, d2, d3] }
  | _ => none }
def ReckonedWrongFalsely : Prop := reckonedRow.holds Tryd.pinned (OpenSpec.ofChange reckonedWrong)

/-- 'chiselkeep.Looped': WHATEVER THE INPUT: true; the input reads as it did. -/
def loopedSpec : ChangeSpec := { name := "looped", fn := fun _ => fun
  | [d] => { results := [.lit (.bool true)], args := [d] }
  | _ => none }
def loopedRow : OpenClaim := { program := "ytedkjanogjglkaadoor", sum := "917e30448a5342cfee7c44610853893f6ef5a30979601148de4b98ee9e47fe12", func := "chisel/chiselkeep.Looped", spec := "looped", unfollowed := true, recurses := true, named := ["chisel/code.opTable"], plainKeys := false, apart := false, laid := [("chisel/code.opTable", laid_chisel_code_opTable)] }
def LoopedSaid : Prop := loopedRow.holds Tryd.pinned (OpenSpec.ofChange loopedSpec)

/-- ITS FALSE NEIGHBOUR: 'it returns false'. Refute it at one input. -/
def loopedWrong : ChangeSpec := { name := "looped", fn := fun _ => fun
  | [d] => { results := [.lit (.bool false)], args := [d] }
  | _ => none }
def LoopedWrongFalsely : Prop := loopedRow.holds Tryd.pinned (OpenSpec.ofChange loopedWrong)

/- THE SECOND FORM. 'bulk': how many values and letters a reading holds, each counted each time it is reached (what is shared counts as often as it is met; a slice's spare places count too). A statement '..UptoSaid' is the law's where the arguments, and the package variables that the reading takes, are together of bulk at most 1048576: NARROWER than '..Said'. Prove '..Said' where nothing that the law and all that it calls make is longer than what came in: it says more and counts as full. Else prove '..UptoSaid'. A law counts once. -/
mutual
def uptoBulk {H : Type} : DataW H → Nat
  | .lit (.string bytes) => bytes.length + 1
  | .lit _ => 1
  | .nil => 1
  | .ptr d => uptoBulk d + 1
  | .slice elems spare => uptoBulkAll elems + uptoBulkAll spare + 1
  | .agg parts => uptoBulkAll parts + 1
  | .iface _ d => uptoBulk d + 1
  | .map entries => uptoBulkEntries entries + 1
  | .held _ => 1
def uptoBulkAll {H : Type} : List (DataW H) → Nat
  | [] => 0
  | d :: r => uptoBulk d + uptoBulkAll r
def uptoBulkEntries {H : Type} : List (Lit × DataW H) → Nat
  | [] => 0
  | x :: r => uptoBulkEntry x + uptoBulkEntries r
def uptoBulkEntry {H : Type} : Lit × DataW H → Nat
  | (.string bytes, d) => bytes.length + uptoBulk d + 1
  | (_, d) => uptoBulk d + 1
 end
def uptoSmall : (H : Type) → List (DataW H) → Bool := fun _ ds => decide (uptoBulkAll ds ≤ 1048576)
def OpenSpec.upto (s : _root_.Go.ChangeSpec) : _root_.Go.OpenSpec := { _root_.Go.OpenSpec.ofChange s with cond := some uptoSmall }

/-- 'chisellaw.Checks', WHERE WHAT IT READS IS OF BULK AT MOST 1048576: true; the input reads as it did. -/
def checksUptoRow : OpenClaim := { program := "ytedkjanogjglkaadoor", sum := "917e30448a5342cfee7c44610853893f6ef5a30979601148de4b98ee9e47fe12", func := "chisel/chisellaw.Checks", spec := "checks", unfollowed := true, recurses := true, named := ["chisel/code.opTable"], plainKeys := false, apart := false, laid := [("chisel/code.opTable", laid_chisel_code_opTable)], narrowed := true }
def ChecksUptoSaid : Prop := checksUptoRow.holds Tryd.pinned (OpenSpec.upto checksSpec)

/-- 'chisellaw.Runs', WHERE WHAT IT READS IS OF BULK AT MOST 1048576: true; the input reads as it did. -/
def runsUptoRow : OpenClaim := { program := "ytedkjanogjglkaadoor", sum := "917e30448a5342cfee7c44610853893f6ef5a30979601148de4b98ee9e47fe12", func := "chisel/chisellaw.Runs", spec := "runs", unfollowed := true, recurses := true, named := ["chisel/code.opTable"], plainKeys := false, apart := false, laid := [("chisel/code.opTable", laid_chisel_code_opTable)], narrowed := true }
def RunsUptoSaid : Prop := runsUptoRow.holds Tryd.pinned (OpenSpec.upto runsSpec)

/-- 'chiselkeep.Reckoned', WHERE WHAT IT READS IS OF BULK AT MOST 1048576: true; the input reads as it did. -/
def reckonedUptoRow : OpenClaim := { program := "ytedkjanogjglkaadoor", sum := "917e30448a5342cfee7c44610853893f6ef5a30979601148de4b98ee9e47fe12", func := "chisel/chiselkeep.Reckoned", spec := "reckoned", unfollowed := true, recurses := true, named := ["chisel/code.opTable"], plainKeys := false, apart := false, laid := [("chisel/code.opTable", laid_chisel_code_opTable)], narrowed := true }
def ReckonedUptoSaid : Prop := reckonedUptoRow.holds Tryd.pinned (OpenSpec.upto reckonedSpec)

/-- 'chiselkeep.Looped', WHERE WHAT IT READS IS OF BULK AT MOST 1048576: true; the input reads as it did. -/
def loopedUptoRow : OpenClaim := { program := "ytedkjanogjglkaadoor", sum := "917e30448a5342cfee7c44610853893f6ef5a30979601148de4b98ee9e47fe12", func := "chisel/chiselkeep.Looped", spec := "looped", unfollowed := true, recurses := true, named := ["chisel/code.opTable"], plainKeys := false, apart := false, laid := [("chisel/code.opTable", laid_chisel_code_opTable)], narrowed := true }
def LoopedUptoSaid : Prop := loopedUptoRow.holds Tryd.pinned (OpenSpec.upto loopedSpec)

end Rows
end Go.Proofs.YtedkjanogjglkaaDoor
