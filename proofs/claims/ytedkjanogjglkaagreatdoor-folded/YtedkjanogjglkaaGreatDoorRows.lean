/-
  NARROWER THAN 'FOR EVERY INPUT', by the rows' own cells (each row's printed sentence says how): Ruled: laid · Rewritten: laid · Lighter: laid · Standards: laid · Sound: laid · Folded: laid · All: laid.
  DERIVED. THE GIVEN ROWS OF THIS SEAT. 7 by the template 'for every input the law returns true; each argument reads behind the call as it read before'; 0 by the template 'total and deterministic' (their statements: YtedkjanogjglkaaGreatDoorTotals.lean).
  GIVEN WITH THE SEED: the statements are not yours to turn. If you find one false, say at which input.
  Laid BY PROGRAM, IN A SANDBOX (cutbox-rows.mjs): the forced cells as the released guide's own fill.sh prints them over the translation 1d872ec2bc5f2b69… (all of the seat's roots in one cut). By AI agents, Wed Nov 11 2026. No macro, syntax, notation, axiom, sorry.
-/
import Derived.Test.YtedkjanogjglkaaGreatDoorChecked
import GoSem.Claim
import GoSem.ClaimJoined
import GoSem.ClaimMapViews
import Derived.JoinedTies
import Derived.KernelRfl
namespace Go.Proofs.YtedkjanogjglkaaGreatDoor
/- THE CELL 'sum', in the pinned program and in every row, IS THE sha256 OF THE DUMP (.gsa) THAT YtedkjanogjglkaaGreatDoorProg.lean LOADS. Nothing in Lean hashes anything: it is a label: what it is worth is what the hold of that sum in a sandbox is worth. -/
noncomputable def Tryz.pinned : Pinned := { name := "ytedkjanogjglkaagreatdoor", sum := "1d872ec2bc5f2b696dd32fca96b0b3bc55e44d2ebd1f066af63dd5c908b32deb", checked := Tryz.checked }
namespace Rows
def none {H : Type} : Left H := { results := [], args := [] }

/- WHAT THE LISTED PACKAGE-LEVEL VARIABLES READ AS WHEN THE CALL BEGINS. Each datum BY PROGRAM (the guide's laid-datum.mjs) off the statement by which the dump's own 'gosem.cut.vars' lays the variable. In a bare row this is a premise. The card (YtedkjanogjglkaaGreatDoorCards.lean) ties it to the program's text. -/
def laid_math_bits_deBruijn32tab {H : Type} : DataW H := .agg [.lit (.int .u8 0), .lit (.int .u8 1), .lit (.int .u8 28), .lit (.int .u8 2), .lit (.int .u8 29), .lit (.int .u8 14), .lit (.int .u8 24), .lit (.int .u8 3), .lit (.int .u8 30), .lit (.int .u8 22), .lit (.int .u8 20), .lit (.int .u8 15), .lit (.int .u8 25), .lit (.int .u8 17), .lit (.int .u8 4), .lit (.int .u8 8), .lit (.int .u8 31), .lit (.int .u8 27), .lit (.int .u8 13), .lit (.int .u8 23), .lit (.int .u8 21), .lit (.int .u8 19), .lit (.int .u8 16), .lit (.int .u8 7), .lit (.int .u8 26), .lit (.int .u8 12), .lit (.int .u8 18), .lit (.int .u8 6), .lit (.int .u8 11), .lit (.int .u8 5), .lit (.int .u8 10), .lit (.int .u8 9)]
def laid_math_bits_deBruijn64tab {H : Type} : DataW H := .agg [.lit (.int .u8 0), .lit (.int .u8 1), .lit (.int .u8 56), .lit (.int .u8 2), .lit (.int .u8 57), .lit (.int .u8 49), .lit (.int .u8 28), .lit (.int .u8 3), .lit (.int .u8 61), .lit (.int .u8 58), .lit (.int .u8 42), .lit (.int .u8 50), .lit (.int .u8 38), .lit (.int .u8 29), .lit (.int .u8 17), .lit (.int .u8 4), .lit (.int .u8 62), .lit (.int .u8 47), .lit (.int .u8 59), .lit (.int .u8 36), .lit (.int .u8 45), .lit (.int .u8 43), .lit (.int .u8 51), .lit (.int .u8 22), .lit (.int .u8 53), .lit (.int .u8 39), .lit (.int .u8 33), .lit (.int .u8 30), .lit (.int .u8 24), .lit (.int .u8 18), .lit (.int .u8 12), .lit (.int .u8 5), .lit (.int .u8 63), .lit (.int .u8 55), .lit (.int .u8 48), .lit (.int .u8 27), .lit (.int .u8 60), .lit (.int .u8 41), .lit (.int .u8 37), .lit (.int .u8 16), .lit (.int .u8 46), .lit (.int .u8 35), .lit (.int .u8 44), .lit (.int .u8 21), .lit (.int .u8 52), .lit (.int .u8 32), .lit (.int .u8 23), .lit (.int .u8 11), .lit (.int .u8 54), .lit (.int .u8 26), .lit (.int .u8 40), .lit (.int .u8 15), .lit (.int .u8 34), .lit (.int .u8 20), .lit (.int .u8 31), .lit (.int .u8 10), .lit (.int .u8 25), .lit (.int .u8 14), .lit (.int .u8 19), .lit (.int .u8 9), .lit (.int .u8 13), .lit (.int .u8 8), .lit (.int .u8 7), .lit (.int .u8 6)]
def laid_internal_strconv_uint64pow10 {H : Type} : DataW H := .agg [.lit (.int .u64 1), .lit (.int .u64 10), .lit (.int .u64 100), .lit (.int .u64 1000), .lit (.int .u64 10000), .lit (.int .u64 100000), .lit (.int .u64 1000000), .lit (.int .u64 10000000), .lit (.int .u64 100000000), .lit (.int .u64 1000000000), .lit (.int .u64 10000000000), .lit (.int .u64 100000000000), .lit (.int .u64 1000000000000), .lit (.int .u64 10000000000000), .lit (.int .u64 100000000000000), .lit (.int .u64 1000000000000000), .lit (.int .u64 10000000000000000), .lit (.int .u64 100000000000000000), .lit (.int .u64 1000000000000000000), .lit (.int .u64 10000000000000000000)]
def laid_chisel_code_opTable {H : Type} : DataW H := .agg [.agg [.lit (.string [97, 100, 100]), .lit (.int .i64 2), .lit (.int .i64 4)], .agg [.lit (.string [115, 117, 98]), .lit (.int .i64 2), .lit (.int .i64 4)], .agg [.lit (.string [109, 117, 108]), .lit (.int .i64 2), .lit (.int .i64 12)], .agg [.lit (.string [100, 105, 118]), .lit (.int .i64 2), .lit (.int .i64 20)], .agg [.lit (.string [97, 110, 100]), .lit (.int .i64 2), .lit (.int .i64 4)], .agg [.lit (.string [111, 114]), .lit (.int .i64 2), .lit (.int .i64 4)], .agg [.lit (.string [120, 111, 114]), .lit (.int .i64 2), .lit (.int .i64 4)], .agg [.lit (.string [115, 104, 108]), .lit (.int .i64 2), .lit (.int .i64 5)], .agg [.lit (.string [115, 104, 114]), .lit (.int .i64 2), .lit (.int .i64 5)], .agg [.lit (.string [101, 113]), .lit (.int .i64 2), .lit (.int .i64 4)], .agg [.lit (.string [108, 116]), .lit (.int .i64 2), .lit (.int .i64 4)], .agg [.lit (.string [110, 101, 103]), .lit (.int .i64 1), .lit (.int .i64 3)], .agg [.lit (.string [110, 111, 116]), .lit (.int .i64 1), .lit (.int .i64 3)]]

/-- 'chisellaw.Ruled': WHATEVER THE INPUT: true; the input reads as it did. -/
def ruledSpec : ChangeSpec := { name := "ruled", fn := fun _ => fun
  | [d] => { results := [.lit (.bool true)], args := [d] }
  | _ => none }
def ruledRow : OpenClaim := { program := "ytedkjanogjglkaagreatdoor", sum := "1d872ec2bc5f2b696dd32fca96b0b3bc55e44d2ebd1f066af63dd5c908b32deb", func := "chisel/chisellaw.Ruled", spec := "ruled", inPlace := ["internal/bytealg.IndexByteString", "internal/bytealg.IndexString", "internal/abi.NoEscape"], unfollowed := true, recurses := true, named := ["internal/bytealg.MaxLen", "chisel/code.opTable", "internal/strconv.uint64pow10", "math/bits.deBruijn32tab", "math/bits.deBruijn64tab"], plainKeys := false, apart := false, laid := [("math/bits.deBruijn32tab", laid_math_bits_deBruijn32tab), ("math/bits.deBruijn64tab", laid_math_bits_deBruijn64tab), ("internal/strconv.uint64pow10", laid_internal_strconv_uint64pow10), ("chisel/code.opTable", laid_chisel_code_opTable)] }
def RuledSaid : Prop := ruledRow.holds Tryz.pinned (OpenSpec.ofChange ruledSpec)

/-- ITS FALSE NEIGHBOUR: 'it returns false'. Refute it at one input. -/
def ruledWrong : ChangeSpec := { name := "ruled", fn := fun _ => fun
  | [d] => { results := [.lit (.bool false)], args := [d] }
  | _ => none }
def RuledWrongFalsely : Prop := ruledRow.holds Tryz.pinned (OpenSpec.ofChange ruledWrong)

/-- 'chisellaw.Rewritten': WHATEVER THE INPUT: true; the input reads as it did. -/
def rewrittenSpec : ChangeSpec := { name := "rewritten", fn := fun _ => fun
  | [d1, d2, d3] => { results := [.lit (.bool true)], args := [d1, d2, d3] }
  | _ => none }
def rewrittenRow : OpenClaim := { program := "ytedkjanogjglkaagreatdoor", sum := "1d872ec2bc5f2b696dd32fca96b0b3bc55e44d2ebd1f066af63dd5c908b32deb", func := "chisel/chisellaw.Rewritten", spec := "rewritten", inPlace := ["internal/bytealg.IndexByteString", "internal/bytealg.IndexString", "internal/abi.NoEscape"], unfollowed := true, recurses := true, named := ["internal/bytealg.MaxLen", "chisel/code.opTable", "internal/strconv.uint64pow10", "math/bits.deBruijn32tab", "math/bits.deBruijn64tab"], plainKeys := false, apart := false, laid := [("math/bits.deBruijn32tab", laid_math_bits_deBruijn32tab), ("math/bits.deBruijn64tab", laid_math_bits_deBruijn64tab), ("internal/strconv.uint64pow10", laid_internal_strconv_uint64pow10), ("chisel/code.opTable", laid_chisel_code_opTable)] }
def RewrittenSaid : Prop := rewrittenRow.holds Tryz.pinned (OpenSpec.ofChange rewrittenSpec)

/-- ITS FALSE NEIGHBOUR: 'it returns false'. Refute it at one input. -/
def rewrittenWrong : ChangeSpec := { name := "rewritten", fn := fun _ => fun
  | [d1, d2, d3] => { results := [.lit (.bool false)], args := [d1, d2, d3] }
  | _ => none }
def RewrittenWrongFalsely : Prop := rewrittenRow.holds Tryz.pinned (OpenSpec.ofChange rewrittenWrong)

/-- 'chiselkeep.Lighter': WHATEVER THE INPUT: true; the input reads as it did. -/
def lighterSpec : ChangeSpec := { name := "lighter", fn := fun _ => fun
  | [d1, d2, d3] => { results := [.lit (.bool true)], args := [d1, d2, d3] }
  | _ => none }
def lighterRow : OpenClaim := { program := "ytedkjanogjglkaagreatdoor", sum := "1d872ec2bc5f2b696dd32fca96b0b3bc55e44d2ebd1f066af63dd5c908b32deb", func := "chisel/chiselkeep.Lighter", spec := "lighter", inPlace := ["internal/bytealg.IndexByteString", "internal/bytealg.IndexString", "internal/abi.NoEscape"], unfollowed := true, recurses := true, named := ["internal/bytealg.MaxLen", "chisel/code.opTable", "internal/strconv.uint64pow10", "math/bits.deBruijn32tab", "math/bits.deBruijn64tab"], plainKeys := false, apart := false, laid := [("math/bits.deBruijn32tab", laid_math_bits_deBruijn32tab), ("math/bits.deBruijn64tab", laid_math_bits_deBruijn64tab), ("internal/strconv.uint64pow10", laid_internal_strconv_uint64pow10), ("chisel/code.opTable", laid_chisel_code_opTable)] }
def LighterSaid : Prop := lighterRow.holds Tryz.pinned (OpenSpec.ofChange lighterSpec)

/-- ITS FALSE NEIGHBOUR: 'it returns false'. Refute it at one input. -/
def lighterWrong : ChangeSpec := { name := "lighter", fn := fun _ => fun
  | [d1, d2, d3] => { results := [.lit (.bool false)], args := [d1, d2, d3] }
  | _ => none }
def LighterWrongFalsely : Prop := lighterRow.holds Tryz.pinned (OpenSpec.ofChange lighterWrong)

/-- 'chisellaw.Standards': WHATEVER THE INPUT: true; the input reads as it did. -/
def standardsSpec : ChangeSpec := { name := "standards", fn := fun _ => fun
  | [d1, d2, d3] => { results := [.lit (.bool true)], args := [d1, d2, d3] }
  | _ => none }
def standardsRow : OpenClaim := { program := "ytedkjanogjglkaagreatdoor", sum := "1d872ec2bc5f2b696dd32fca96b0b3bc55e44d2ebd1f066af63dd5c908b32deb", func := "chisel/chisellaw.Standards", spec := "standards", inPlace := ["internal/bytealg.IndexByteString", "internal/bytealg.IndexString", "internal/abi.NoEscape"], unfollowed := true, recurses := true, named := ["internal/bytealg.MaxLen", "chisel/code.opTable", "internal/strconv.uint64pow10", "math/bits.deBruijn32tab", "math/bits.deBruijn64tab"], plainKeys := false, apart := false, laid := [("math/bits.deBruijn32tab", laid_math_bits_deBruijn32tab), ("math/bits.deBruijn64tab", laid_math_bits_deBruijn64tab), ("internal/strconv.uint64pow10", laid_internal_strconv_uint64pow10), ("chisel/code.opTable", laid_chisel_code_opTable)] }
def StandardsSaid : Prop := standardsRow.holds Tryz.pinned (OpenSpec.ofChange standardsSpec)

/-- ITS FALSE NEIGHBOUR: 'it returns false'. Refute it at one input. -/
def standardsWrong : ChangeSpec := { name := "standards", fn := fun _ => fun
  | [d1, d2, d3] => { results := [.lit (.bool false)], args := [d1, d2, d3] }
  | _ => none }
def StandardsWrongFalsely : Prop := standardsRow.holds Tryz.pinned (OpenSpec.ofChange standardsWrong)

/-- 'chiselkeep.Sound': WHATEVER THE INPUT: true; the input reads as it did. -/
def soundSpec : ChangeSpec := { name := "sound", fn := fun _ => fun
  | [d1, d2, d3, d4] => { results := [.lit (.bool true)], args := [d1, d2, d3, d4] }
  | _ => none }
def soundRow : OpenClaim := { program := "ytedkjanogjglkaagreatdoor", sum := "1d872ec2bc5f2b696dd32fca96b0b3bc55e44d2ebd1f066af63dd5c908b32deb", func := "chisel/chiselkeep.Sound", spec := "sound", inPlace := ["internal/bytealg.IndexByteString", "internal/bytealg.IndexString", "internal/abi.NoEscape"], unfollowed := true, recurses := true, named := ["internal/bytealg.MaxLen", "chisel/code.opTable", "internal/strconv.uint64pow10", "math/bits.deBruijn32tab", "math/bits.deBruijn64tab"], plainKeys := false, apart := false, laid := [("math/bits.deBruijn32tab", laid_math_bits_deBruijn32tab), ("math/bits.deBruijn64tab", laid_math_bits_deBruijn64tab), ("internal/strconv.uint64pow10", laid_internal_strconv_uint64pow10), ("chisel/code.opTable", laid_chisel_code_opTable)] }
def SoundSaid : Prop := soundRow.holds Tryz.pinned (OpenSpec.ofChange soundSpec)

/-- ITS FALSE NEIGHBOUR: 'it returns false'. Refute it at one input. -/
def soundWrong : ChangeSpec := { name := "sound", fn := fun _ => fun
  | [d1, d2, d3, d4] => { results := [.lit (.bool false)], args := [d1, d2, d3, d4] }
  | _ => none }
def SoundWrongFalsely : Prop := soundRow.holds Tryz.pinned (OpenSpec.ofChange soundWrong)

/-- 'chiselkeep.Folded': WHATEVER THE INPUT: true; the input reads as it did. -/
def foldedSpec : ChangeSpec := { name := "folded", fn := fun _ => fun
  | [d1, d2, d3, d4] => { results := [.lit (.bool true)], args := [d1, d2, d3, d4] }
  | _ => none }
def foldedRow : OpenClaim := { program := "ytedkjanogjglkaagreatdoor", sum := "1d872ec2bc5f2b696dd32fca96b0b3bc55e44d2ebd1f066af63dd5c908b32deb", func := "chisel/chiselkeep.Folded", spec := "folded", inPlace := ["internal/bytealg.IndexByteString", "internal/bytealg.IndexString", "internal/abi.NoEscape"], unfollowed := true, recurses := true, named := ["internal/bytealg.MaxLen", "chisel/code.opTable", "internal/strconv.uint64pow10", "math/bits.deBruijn32tab", "math/bits.deBruijn64tab"], plainKeys := false, apart := false, laid := [("math/bits.deBruijn32tab", laid_math_bits_deBruijn32tab), ("math/bits.deBruijn64tab", laid_math_bits_deBruijn64tab), ("internal/strconv.uint64pow10", laid_internal_strconv_uint64pow10), ("chisel/code.opTable", laid_chisel_code_opTable)] }
def FoldedSaid : Prop := foldedRow.holds Tryz.pinned (OpenSpec.ofChange foldedSpec)

/-- ITS FALSE NEIGHBOUR: 'it returns false'. Refute it at one input. -/
def foldedWrong : ChangeSpec := { name := "folded", fn := fun _ => fun
  | [d1, d2, d3, d4] => { results := [.lit (.bool false)], args := [d1, d2, d3, d4] }
  | _ => none }
def FoldedWrongFalsely : Prop := foldedRow.holds Tryz.pinned (OpenSpec.ofChange foldedWrong)

/-- 'chisellaw.All': WHATEVER THE INPUT: true; the input reads as it did. -/
def allSpec : ChangeSpec := { name := "all", fn := fun _ => fun
  | [d1, d2, d3, d4, d5] => { results := [.lit (.bool true)], args := [d1, d2, d3, d4, d5] }
  | _ => none }
def allRow : OpenClaim := { program := "ytedkjanogjglkaagreatdoor", sum := "1d872ec2bc5f2b696dd32fca96b0b3bc55e44d2ebd1f066af63dd5c908b32deb", func := "chisel/chisellaw.All", spec := "all", inPlace := ["internal/bytealg.IndexByteString", "internal/bytealg.IndexString", "internal/abi.NoEscape"], unfollowed := true, recurses := true, named := ["internal/bytealg.MaxLen", "chisel/code.opTable", "internal/strconv.uint64pow10", "math/bits.deBruijn32tab", "math/bits.deBruijn64tab"], plainKeys := false, apart := false, laid := [("math/bits.deBruijn32tab", laid_math_bits_deBruijn32tab), ("math/bits.deBruijn64tab", laid_math_bits_deBruijn64tab), ("internal/strconv.uint64pow10", laid_internal_strconv_uint64pow10), ("chisel/code.opTable", laid_chisel_code_opTable)] }
def AllSaid : Prop := allRow.holds Tryz.pinned (OpenSpec.ofChange allSpec)

/-- ITS FALSE NEIGHBOUR: 'it returns false'. Refute it at one input. -/
def allWrong : ChangeSpec := { name := "all", fn := fun _ => fun
  | [d1, d2, d3, d4, d5] => { results := [.lit (.bool false)], args := [d1, d2, d3, d4, d5] }
  | _ => none }
def AllWrongFalsely : Prop := allRow.holds Tryz.pinned (OpenSpec.ofChange allWrong)

/- THE SECOND FORM. 'bulk': how many values and letters a reading holds, each counted each time it is reached (what is shared counts as often as it is met; a slice's spare places count too). A statement '..UptoSaid' is the law's where the arguments, and the package variables that the reading takes, are together of bulk at most 1048576: NARROWER than '..Said'. Prove '..Said' where nothing that the law and all that it calls make is longer than what came in: it says more and counts as full. Else prove '..UptoSaid'. A law counts once. -/
mutual
def uptoBulk {H : Type} : DataW H → Nat
  | .lit (.string bytes) => bytes.length + 1
  | .lit _ => 1
  | .nil => 1
  | .ptr d => uptoBulk d + 1
  | .slice elems spare => uptoBulkAll elems + uptoBulkAll spare + 1
  | .agg parts => uptoBulkAll parts + 1
  | .iface _ d => uptoBulk d + 1
  | .map entries => uptoBulkEntries entries + 1
  | .held _ => 1
def uptoBulkAll {H : Type} : List (DataW H) → Nat
  | [] => 0
  | d :: r => uptoBulk d + uptoBulkAll r
def uptoBulkEntries {H : Type} : List (Lit × DataW H) → Nat
  | [] => 0
  | x :: r => uptoBulkEntry x + uptoBulkEntries r
def uptoBulkEntry {H : Type} : Lit × DataW H → Nat
  | (.string bytes, d) => bytes.length + uptoBulk d + 1
  | (_, d) => uptoBulk d + 1
 end
def uptoSmall : (H : Type) → List (DataW H) → Bool := fun _ ds => decide (uptoBulkAll ds ≤ 1048576)
def OpenSpec.upto (s : _root_.Go.ChangeSpec) : _root_.Go.OpenSpec := { _root_.Go.OpenSpec.ofChange s with cond := some uptoSmall }

/-- 'chisellaw.Ruled', WHERE WHAT IT READS IS OF BULK AT MOST 1048576: true; the input reads as it did. -/
def ruledUptoRow : OpenClaim := { program := "ytedkjanogjglkaagreatdoor", sum := "1d872ec2bc5f2b696dd32fca96b0b3bc55e44d2ebd1f066af63dd5c908b32deb", func := "chisel/chisellaw.Ruled", spec := "ruled", inPlace := ["internal/bytealg.IndexByteString", "internal/bytealg.IndexString", "internal/abi.NoEscape"], unfollowed := true, recurses := true, named := ["internal/bytealg.MaxLen", "chisel/code.opTable", "internal/strconv.uint64pow10", "math/bits.deBruijn32tab", "math/bits.deBruijn64tab"], plainKeys := false, apart := false, laid := [("math/bits.deBruijn32tab", laid_math_bits_deBruijn32tab), ("math/bits.deBruijn64tab", laid_math_bits_deBruijn64tab), ("internal/strconv.uint64pow10", laid_internal_strconv_uint64pow10), ("chisel/code.opTable", laid_chisel_code_opTable)], narrowed := true }
def RuledUptoSaid : Prop := ruledUptoRow.holds Tryz.pinned (OpenSpec.upto ruledSpec)

/-- 'chisellaw.Rewritten', WHERE WHAT IT READS IS OF BULK AT MOST 1048576: true; the input reads as it did. -/
def rewrittenUptoRow : OpenClaim := { program := "ytedkjanogjglkaagreatdoor", sum := "1d872ec2bc5f2b696dd32fca96b0b3bc55e44d2ebd1f066af63dd5c908b32deb", func := "chisel/chisellaw.Rewritten", spec := "rewritten", inPlace := ["internal/bytealg.IndexByteString", "internal/bytealg.IndexString", "internal/abi.NoEscape"], unfollowed := true, recurses := true, named := ["internal/bytealg.MaxLen", "chisel/code.opTable", "internal/strconv.uint64pow10", "math/bits.deBruijn32tab", "math/bits.deBruijn64tab"], plainKeys := false, apart := false, laid := [("math/bits.deBruijn32tab", laid_math_bits_deBruijn32tab), ("math/bits.deBruijn64tab", laid_math_bits_deBruijn64tab), ("internal/strconv.uint64pow10", laid_internal_strconv_uint64pow10), ("chisel/code.opTable", laid_chisel_code_opTable)], narrowed := true }
def RewrittenUptoSaid : Prop := rewrittenUptoRow.holds Tryz.pinned (OpenSpec.upto rewrittenSpec)

/-- 'chiselkeep.Lighter', WHERE WHAT IT READS IS OF BULK AT MOST 1048576: true; the input reads as it did. -/
def lighterUptoRow : OpenClaim := { program := "ytedkjanogjglkaagreatdoor", sum := "1d872ec2bc5f2b696dd32fca96b0b3bc55e44d2ebd1f066af63dd5c908b32deb", func := "chisel/chiselkeep.Lighter", spec := "lighter", inPlace := ["internal/bytealg.IndexByteString", "internal/bytealg.IndexString", "internal/abi.NoEscape"], unfollowed := true, recurses := true, named := ["internal/bytealg.MaxLen", "chisel/code.opTable", "internal/strconv.uint64pow10", "math/bits.deBruijn32tab", "math/bits.deBruijn64tab"], plainKeys := false, apart := false, laid := [("math/bits.deBruijn32tab", laid_math_bits_deBruijn32tab), ("math/bits.deBruijn64tab", laid_math_bits_deBruijn64tab), ("internal/strconv.uint64pow10", laid_internal_strconv_uint64pow10), ("chisel/code.opTable", laid_chisel_code_opTable)], narrowed := true }
def LighterUptoSaid : Prop := lighterUptoRow.holds Tryz.pinned (OpenSpec.upto lighterSpec)

/-- 'chisellaw.Standards', WHERE WHAT IT READS IS OF BULK AT MOST 1048576: true; the input reads as it did. -/
def standardsUptoRow : OpenClaim := { program := "ytedkjanogjglkaagreatdoor", sum := "1d872ec2bc5f2b696dd32fca96b0b3bc55e44d2ebd1f066af63dd5c908b32deb", func := "chisel/chisellaw.Standards", spec := "standards", inPlace := ["internal/bytealg.IndexByteString", "internal/bytealg.IndexString", "internal/abi.NoEscape"], unfollowed := true, recurses := true, named := ["internal/bytealg.MaxLen", "chisel/code.opTable", "internal/strconv.uint64pow10", "math/bits.deBruijn32tab", "math/bits.deBruijn64tab"], plainKeys := false, apart := false, laid := [("math/bits.deBruijn32tab", laid_math_bits_deBruijn32tab), ("math/bits.deBruijn64tab", laid_math_bits_deBruijn64tab), ("internal/strconv.uint64pow10", laid_internal_strconv_uint64pow10), ("chisel/code.opTable", laid_chisel_code_opTable)], narrowed := true }
def StandardsUptoSaid : Prop := standardsUptoRow.holds Tryz.pinned (OpenSpec.upto standardsSpec)

/-- 'chiselkeep.Sound', WHERE WHAT IT READS IS OF BULK AT MOST 1048576: true; the input reads as it did. -/
def soundUptoRow : OpenClaim := { program := "ytedkjanogjglkaagreatdoor", sum := "1d872ec2bc5f2b696dd32fca96b0b3bc55e44d2ebd1f066af63dd5c908b32deb", func := "chisel/chiselkeep.Sound", spec := "sound", inPlace := ["internal/bytealg.IndexByteString", "internal/bytealg.IndexString", "internal/abi.NoEscape"], unfollowed := true, recurses := true, named := ["internal/bytealg.MaxLen", "chisel/code.opTable", "internal/strconv.uint64pow10", "math/bits.deBruijn32tab", "math/bits.deBruijn64tab"], plainKeys := false, apart := false, laid := [("math/bits.deBruijn32tab", laid_math_bits_deBruijn32tab), ("math/bits.deBruijn64tab", laid_math_bits_deBruijn64tab), ("internal/strconv.uint64pow10", laid_internal_strconv_uint64pow10), ("chisel/code.opTable", laid_chisel_code_opTable)], narrowed := true }
def SoundUptoSaid : Prop := soundUptoRow.holds Tryz.pinned (OpenSpec.upto soundSpec)

/-- 'chiselkeep.Folded', WHERE WHAT IT READS IS OF BULK AT MOST 1048576: true; the input reads as it did. -/
def foldedUptoRow : OpenClaim := { program := "ytedkjanogjglkaagreatdoor", sum := "1d872ec2bc5f2b696dd32fca96b0b3bc55e44d2ebd1f066af63dd5c908b32deb", func := "chisel/chiselkeep.Folded", spec := "folded", inPlace := ["internal/bytealg.IndexByteString", "internal/bytealg.IndexString", "internal/abi.NoEscape"], unfollowed := true, recurses := true, named := ["internal/bytealg.MaxLen", "chisel/code.opTable", "internal/strconv.uint64pow10", "math/bits.deBruijn32tab", "math/bits.deBruijn64tab"], plainKeys := false, apart := false, laid := [("math/bits.deBruijn32tab", laid_math_bits_deBruijn32tab), ("math/bits.deBruijn64tab", laid_math_bits_deBruijn64tab), ("internal/strconv.uint64pow10", laid_internal_strconv_uint64pow10), ("chisel/code.opTable", laid_chisel_code_opTable)], narrowed := true }
def FoldedUptoSaid : Prop := foldedUptoRow.holds Tryz.pinned (OpenSpec.upto foldedSpec)

/-- 'chisellaw.All', WHERE WHAT IT READS IS OF BULK AT MOST 1048576: true; the input reads as it did. -/
def allUptoRow : OpenClaim := { program := "ytedkjanogjglkaagreatdoor", sum := "1d872ec2bc5f2b696dd32fca96b0b3bc55e44d2ebd1f066af63dd5c908b32deb", func := "chisel/chisellaw.All", spec := "all", inPlace := ["internal/bytealg.IndexByteString", "internal/bytealg.IndexString", "internal/abi.NoEscape"], unfollowed := true, recurses := true, named := ["internal/bytealg.MaxLen", "chisel/code.opTable", "internal/strconv.uint64pow10", "math/bits.deBruijn32tab", "math/bits.deBruijn64tab"], plainKeys := false, apart := false, laid := [("math/bits.deBruijn32tab", laid_math_bits_deBruijn32tab), ("math/bits.deBruijn64tab", laid_math_bits_deBruijn64tab), ("internal/strconv.uint64pow10", laid_internal_strconv_uint64pow10), ("chisel/code.opTable", laid_chisel_code_opTable)], narrowed := true }
def AllUptoSaid : Prop := allUptoRow.holds Tryz.pinned (OpenSpec.upto allSpec)

end Rows
end Go.Proofs.YtedkjanogjglkaaGreatDoor
