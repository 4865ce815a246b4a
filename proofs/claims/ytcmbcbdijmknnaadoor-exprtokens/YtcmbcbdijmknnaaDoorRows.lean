/-
  NARROWER THAN 'FOR EVERY INPUT', by the rows' own cells (each row's printed sentence says how): ExprParses: laid · ExprTokens: laid · ExprTells: laid · ExprBack: laid · ExprShown: laid · ExprParts: laid · ExprBinds: laid · ExprWraps: laid.
  DERIVED. THE GIVEN ROWS OF THIS SEAT. 8 by the template 'for every input the law returns true; each argument reads behind the call as it read before'; 0 by the template 'total and deterministic' (their statements: YtcmbcbdijmknnaaDoorTotals.lean).
  GIVEN WITH THE SEED: the statements are not yours to turn. If you find one false, say at which input.
  Laid BY PROGRAM, IN A SANDBOX (cutbox-rows.mjs): the forced cells as the released guide's own fill.sh prints them over the translation 0ddaa4784b0eea05… (all of the seat's roots in one cut). By AI agents, Wed Nov 11 2026. No macro, syntax, notation, axiom, sorry.
-/
import Derived.Test.YtcmbcbdijmknnaaDoorChecked
import GoSem.Claim
import GoSem.ClaimJoined
import GoSem.ClaimMapViews
import Derived.JoinedTies
import Derived.KernelRfl
namespace Go.Proofs.YtcmbcbdijmknnaaDoor
/- THE CELL 'sum', in the pinned program and in every row, IS THE sha256 OF THE DUMP (.gsa) THAT YtcmbcbdijmknnaaDoorProg.lean LOADS. Nothing in Lean hashes anything: it is a label: what it is worth is what the hold of that sum in a sandbox is worth. -/
noncomputable def Tryd.pinned : Pinned := { name := "ytcmbcbdijmknnaadoor", sum := "0ddaa4784b0eea052cea941238272eb62fe3376d7ddf9f597870ac6fd8d0a9e6", checked := Tryd.checked }
namespace Rows
def none {H : Type} : Left H := { results := [], args := [] }

/- WHAT THE LISTED PACKAGE-LEVEL VARIABLES READ AS WHEN THE CALL BEGINS. Each datum BY PROGRAM (the guide's laid-datum.mjs) off the statement by which the dump's own 'gosem.cut.vars' lays the variable. In a bare row this is a premise. The card (YtcmbcbdijmknnaaDoorCards.lean) ties it to the program's text. -/
def laid_math_bits_deBruijn32tab {H : Type} : DataW H := .agg [.lit (.int .u8 0), .lit (.int .u8 1), .lit (.int .u8 28), .lit (.int .u8 2), .lit (.int .u8 29), .lit (.int .u8 14), .lit (.int .u8 24), .lit (.int .u8 3), .lit (.int .u8 30), .lit (.int .u8 22), .lit (.int .u8 20), .lit (.int .u8 15), .lit (.int .u8 25), .lit (.int .u8 17), .lit (.int .u8 4), .lit (.int .u8 8), .lit (.int .u8 31), .lit (.int .u8 27), .lit (.int .u8 13), .lit (.int .u8 23), .lit (.int .u8 21), .lit (.int .u8 19), .lit (.int .u8 16), .lit (.int .u8 7), .lit (.int .u8 26), .lit (.int .u8 12), .lit (.int .u8 18), .lit (.int .u8 6), .lit (.int .u8 11), .lit (.int .u8 5), .lit (.int .u8 10), .lit (.int .u8 9)]
def laid_math_bits_deBruijn64tab {H : Type} : DataW H := .agg [.lit (.int .u8 0), .lit (.int .u8 1), .lit (.int .u8 56), .lit (.int .u8 2), .lit (.int .u8 57), .lit (.int .u8 49), .lit (.int .u8 28), .lit (.int .u8 3), .lit (.int .u8 61), .lit (.int .u8 58), .lit (.int .u8 42), .lit (.int .u8 50), .lit (.int .u8 38), .lit (.int .u8 29), .lit (.int .u8 17), .lit (.int .u8 4), .lit (.int .u8 62), .lit (.int .u8 47), .lit (.int .u8 59), .lit (.int .u8 36), .lit (.int .u8 45), .lit (.int .u8 43), .lit (.int .u8 51), .lit (.int .u8 22), .lit (.int .u8 53), .lit (.int .u8 39), .lit (.int .u8 33), .lit (.int .u8 30), .lit (.int .u8 24), .lit (.int .u8 18), .lit (.int .u8 12), .lit (.int .u8 5), .lit (.int .u8 63), .lit (.int .u8 55), .lit (.int .u8 48), .lit (.int .u8 27), .lit (.int .u8 60), .lit (.int .u8 41), .lit (.int .u8 37), .lit (.int .u8 16), .lit (.int .u8 46), .lit (.int .u8 35), .lit (.int .u8 44), .lit (.int .u8 21), .lit (.int .u8 52), .lit (.int .u8 32), .lit (.int .u8 23), .lit (.int .u8 11), .lit (.int .u8 54), .lit (.int .u8 26), .lit (.int .u8 40), .lit (.int .u8 15), .lit (.int .u8 34), .lit (.int .u8 20), .lit (.int .u8 31), .lit (.int .u8 10), .lit (.int .u8 25), .lit (.int .u8 14), .lit (.int .u8 19), .lit (.int .u8 9), .lit (.int .u8 13), .lit (.int .u8 8), .lit (.int .u8 7), .lit (.int .u8 6)]
def laid_internal_strconv_uint64pow10 {H : Type} : DataW H := .agg [.lit (.int .u64 1), .lit (.int .u64 10), .lit (.int .u64 100), .lit (.int .u64 1000), .lit (.int .u64 10000), .lit (.int .u64 100000), .lit (.int .u64 1000000), .lit (.int .u64 10000000), .lit (.int .u64 100000000), .lit (.int .u64 1000000000), .lit (.int .u64 10000000000), .lit (.int .u64 100000000000), .lit (.int .u64 1000000000000), .lit (.int .u64 10000000000000), .lit (.int .u64 100000000000000), .lit (.int .u64 1000000000000000), .lit (.int .u64 10000000000000000), .lit (.int .u64 100000000000000000), .lit (.int .u64 1000000000000000000), .lit (.int .u64 10000000000000000000)]
def laid_leadline_expr_signs {H : Type} : DataW H := .agg [.lit (.string []), .lit (.string []), .lit (.string []), .lit (.string [45]), .lit (.string [33]), .lit (.string [43]), .lit (.string [45]), .lit (.string [42]), .lit (.string [47]), .lit (.string [37]), .lit (.string [61, 61]), .lit (.string [33, 61]), .lit (.string [60]), .lit (.string [60, 61]), .lit (.string [38, 38]), .lit (.string [124, 124])]
def laid_leadline_expr_binds {H : Type} : DataW H := .agg [.lit (.int .i64 0), .lit (.int .i64 0), .lit (.int .i64 0), .lit (.int .i64 6), .lit (.int .i64 6), .lit (.int .i64 4), .lit (.int .i64 4), .lit (.int .i64 5), .lit (.int .i64 5), .lit (.int .i64 5), .lit (.int .i64 3), .lit (.int .i64 3), .lit (.int .i64 3), .lit (.int .i64 3), .lit (.int .i64 2), .lit (.int .i64 1)]

/-- 'leadlinelaw03.ExprParses': WHATEVER THE INPUT: true; the input reads as it did. -/
def exprParsesSpec : ChangeSpec := { name := "exprParses", fn := fun _ => fun
  | [d1, d2] => { results := [.lit (.bool true)], args := [d1, d2] }
  | _ => none }
def exprParsesRow : OpenClaim := { program := "ytcmbcbdijmknnaadoor", sum := "0ddaa4784b0eea052cea941238272eb62fe3376d7ddf9f597870ac6fd8d0a9e6", func := "leadline/leadlinelaw03.ExprParses", spec := "exprParses", unfollowed := true, recurses := true, named := ["leadline/expr.signs", "leadline/expr.binds", "internal/strconv.uint64pow10", "math/bits.deBruijn32tab", "math/bits.deBruijn64tab"], apart := false, laid := [("math/bits.deBruijn32tab", laid_math_bits_deBruijn32tab), ("math/bits.deBruijn64tab", laid_math_bits_deBruijn64tab), ("internal/strconv.uint64pow10", laid_internal_strconv_uint64pow10), ("leadline/expr.signs", laid_leadline_expr_signs), ("leadline/expr.binds", laid_leadline_expr_binds)] }
def ExprParsesSaid : Prop := exprParsesRow.holds Tryd.pinned (OpenSpec.ofChange exprParsesSpec)

/-- ITS FALSE NEIGHBOUR: 'it returns false'. Refute it at one input. -/
def exprParsesWrong : ChangeSpec := { name := "exprParses", fn := fun _ => fun
  | [d1, d2] => { results := [.lit (.bool false)], args := [d1, d2] }
  | _ => none }
def ExprParsesWrongFalsely : Prop := exprParsesRow.holds Tryd.pinned (OpenSpec.ofChange exprParsesWrong)

/-- 'leadlinelaw03.ExprTokens': WHATEVER THE INPUT: true; the input reads as it did. -/
def exprTokensSpec : ChangeSpec := { name := "exprTokens", fn := fun _ => fun
  | [d1, d2] => { results := [.lit (.bool true)], args := [d1, d2] }
  | _ => none }
def exprTokensRow : OpenClaim := { program := "ytcmbcbdijmknnaadoor", sum := "0ddaa4784b0eea052cea941238272eb62fe3376d7ddf9f597870ac6fd8d0a9e6", func := "leadline/leadlinelaw03.ExprTokens", spec := "exprTokens", unfollowed := true, recurses := true, named := ["leadline/expr.signs", "leadline/expr.binds", "internal/strconv.uint64pow10", "math/bits.deBruijn32tab", "math/bits.deBruijn64tab"], apart := false, laid := [("math/bits.deBruijn32tab", laid_math_bits_deBruijn32tab), ("math/bits.deBruijn64tab", laid_math_bits_deBruijn64tab), ("internal/strconv.uint64pow10", laid_internal_strconv_uint64pow10), ("leadline/expr.signs", laid_leadline_expr_signs), ("leadline/expr.binds", laid_leadline_expr_binds)] }
def ExprTokensSaid : Prop := exprTokensRow.holds Tryd.pinned (OpenSpec.ofChange exprTokensSpec)

/-- ITS FALSE NEIGHBOUR: 'it returns false'. Refute it at one input. -/
def exprTokensWrong : ChangeSpec := { name := "exprTokens", fn := fun _ => fun
  | [d1, d2] => { results := [.lit (.bool false)], args := [d1, d2] }
  | _ => none }
def ExprTokensWrongFalsely : Prop := exprTokensRow.holds Tryd.pinned (OpenSpec.ofChange exprTokensWrong)

/-- 'leadlinelaw03.ExprTells': WHATEVER THE INPUT: true; the input reads as it did. -/
def exprTellsSpec : ChangeSpec := { name := "exprTells", fn := fun _ => fun
  | [d1, d2, d3] => { results := [.lit (.bool true)], args := [d1, d2, d3] }
  | _ => none }
def exprTellsRow : OpenClaim := { program := "ytcmbcbdijmknnaadoor", sum := "0ddaa4784b0eea052cea941238272eb62fe3376d7ddf9f597870ac6fd8d0a9e6", func := "leadline/leadlinelaw03.ExprTells", spec := "exprTells", unfollowed := true, recurses := true, named := ["leadline/expr.signs", "internal/strconv.uint64pow10", "math/bits.deBruijn32tab", "math/bits.deBruijn64tab", "leadline/expr.binds"], apart := false, laid := [("math/bits.deBruijn32tab", laid_math_bits_deBruijn32tab), ("math/bits.deBruijn64tab", laid_math_bits_deBruijn64tab), ("internal/strconv.uint64pow10", laid_internal_strconv_uint64pow10), ("leadline/expr.signs", laid_leadline_expr_signs), ("leadline/expr.binds", laid_leadline_expr_binds)] }
def ExprTellsSaid : Prop := exprTellsRow.holds Tryd.pinned (OpenSpec.ofChange exprTellsSpec)

/-- ITS FALSE NEIGHBOUR: 'it returns false'. Refute it at one input. -/
def exprTellsWrong : ChangeSpec := { name := "exprTells", fn := fun _ => fun
  | [d1, d2, d3] => { results := [.lit (.bool false)], args := [d1, d2, d3] }
  | _ => none }
def ExprTellsWrongFalsely : Prop := exprTellsRow.holds Tryd.pinned (OpenSpec.ofChange exprTellsWrong)

/-- 'leadlinelaw03.ExprBack': WHATEVER THE INPUT: true; the input reads as it did. -/
def exprBackSpec : ChangeSpec := { name := "exprBack", fn := fun _ => fun
  | [d] => { results := [.lit (.bool true)], args := [d] }
  | _ => none }
def exprBackRow : OpenClaim := { program := "ytcmbcbdijmknnaadoor", sum := "0ddaa4784b0eea052cea941238272eb62fe3376d7ddf9f597870ac6fd8d0a9e6", func := "leadline/leadlinelaw03.ExprBack", spec := "exprBack", unfollowed := true, recurses := true, named := ["leadline/expr.signs", "leadline/expr.binds", "internal/strconv.uint64pow10", "math/bits.deBruijn32tab", "math/bits.deBruijn64tab"], apart := false, laid := [("math/bits.deBruijn32tab", laid_math_bits_deBruijn32tab), ("math/bits.deBruijn64tab", laid_math_bits_deBruijn64tab), ("internal/strconv.uint64pow10", laid_internal_strconv_uint64pow10), ("leadline/expr.signs", laid_leadline_expr_signs), ("leadline/expr.binds", laid_leadline_expr_binds)] }
def ExprBackSaid : Prop := exprBackRow.holds Tryd.pinned (OpenSpec.ofChange exprBackSpec)

/-- ITS FALSE NEIGHBOUR: 'it returns false'. Refute it at one input. -/
def exprBackWrong : ChangeSpec := { name := "exprBack", fn := fun _ => fun
  | [d] => { results := [.lit (.bool false)], args := [d] }
  | _ => none }
def ExprBackWrongFalsely : Prop := exprBackRow.holds Tryd.pinned (OpenSpec.ofChange exprBackWrong)

/-- 'leadlinelaw03.ExprShown': WHATEVER THE INPUT: true; the input reads as it did. -/
def exprShownSpec : ChangeSpec := { name := "exprShown", fn := fun _ => fun
  | [d] => { results := [.lit (.bool true)], args := [d] }
  | _ => none }
def exprShownRow : OpenClaim := { program := "ytcmbcbdijmknnaadoor", sum := "0ddaa4784b0eea052cea941238272eb62fe3376d7ddf9f597870ac6fd8d0a9e6", func := "leadline/leadlinelaw03.ExprShown", spec := "exprShown", unfollowed := true, recurses := true, named := ["leadline/expr.signs", "internal/strconv.uint64pow10", "math/bits.deBruijn32tab", "math/bits.deBruijn64tab", "leadline/expr.binds"], apart := false, laid := [("math/bits.deBruijn32tab", laid_math_bits_deBruijn32tab), ("math/bits.deBruijn64tab", laid_math_bits_deBruijn64tab), ("internal/strconv.uint64pow10", laid_internal_strconv_uint64pow10), ("leadline/expr.signs", laid_leadline_expr_signs), ("leadline/expr.binds", laid_leadline_expr_binds)] }
def ExprShownSaid : Prop := exprShownRow.holds Tryd.pinned (OpenSpec.ofChange exprShownSpec)

/-- ITS FALSE NEIGHBOUR: 'it returns false'. Refute it at one input. -/
def exprShownWrong : ChangeSpec := { name := "exprShown", fn := fun _ => fun
  | [d] => { results := [.lit (.bool false)], args := [d] }
  | _ => none }
def ExprShownWrongFalsely : Prop := exprShownRow.holds Tryd.pinned (OpenSpec.ofChange exprShownWrong)

/-- 'leadlinelaw03.ExprParts': WHATEVER THE INPUT: true; the input reads as it did. -/
def exprPartsSpec : ChangeSpec := { name := "exprParts", fn := fun _ => fun
  | [d1, d2] => { results := [.lit (.bool true)], args := [d1, d2] }
  | _ => none }
def exprPartsRow : OpenClaim := { program := "ytcmbcbdijmknnaadoor", sum := "0ddaa4784b0eea052cea941238272eb62fe3376d7ddf9f597870ac6fd8d0a9e6", func := "leadline/leadlinelaw03.ExprParts", spec := "exprParts", unfollowed := true, recurses := true, named := ["leadline/expr.signs", "leadline/expr.binds", "internal/strconv.uint64pow10", "math/bits.deBruijn32tab", "math/bits.deBruijn64tab"], apart := false, laid := [("math/bits.deBruijn32tab", laid_math_bits_deBruijn32tab), ("math/bits.deBruijn64tab", laid_math_bits_deBruijn64tab), ("internal/strconv.uint64pow10", laid_internal_strconv_uint64pow10), ("leadline/expr.signs", laid_leadline_expr_signs), ("leadline/expr.binds", laid_leadline_expr_binds)] }
def ExprPartsSaid : Prop := exprPartsRow.holds Tryd.pinned (OpenSpec.ofChange exprPartsSpec)

/-- ITS FALSE NEIGHBOUR: 'it returns false'. Refute it at one input. -/
def exprPartsWrong : ChangeSpec := { name := "exprParts", fn := fun _ => fun
  | [d1, d2] => { results := [.lit (.bool false)], args := [d1, d2] }
  | _ => none }
def ExprPartsWrongFalsely : Prop := exprPartsRow.holds Tryd.pinned (OpenSpec.ofChange exprPartsWrong)

/-- 'leadlinelaw03.ExprBinds': WHATEVER THE INPUT: true; the input reads as it did. -/
def exprBindsSpec : ChangeSpec := { name := "exprBinds", fn := fun _ => fun
  | [d1, d2] => { results := [.lit (.bool true)], args := [d1, d2] }
  | _ => none }
def exprBindsRow : OpenClaim := { program := "ytcmbcbdijmknnaadoor", sum := "0ddaa4784b0eea052cea941238272eb62fe3376d7ddf9f597870ac6fd8d0a9e6", func := "leadline/leadlinelaw03.ExprBinds", spec := "exprBinds", unfollowed := true, recurses := true, named := ["leadline/expr.signs", "leadline/expr.binds", "internal/strconv.uint64pow10", "math/bits.deBruijn32tab", "math/bits.deBruijn64tab"], apart := false, laid := [("math/bits.deBruijn32tab", laid_math_bits_deBruijn32tab), ("math/bits.deBruijn64tab", laid_math_bits_deBruijn64tab), ("internal/strconv.uint64pow10", laid_internal_strconv_uint64pow10), ("leadline/expr.signs", laid_leadline_expr_signs), ("leadline/expr.binds", laid_leadline_expr_binds)] }
def ExprBindsSaid : Prop := exprBindsRow.holds Tryd.pinned (OpenSpec.ofChange exprBindsSpec)

/-- ITS FALSE NEIGHBOUR: 'it returns false'. Refute it at one input. -/
def exprBindsWrong : ChangeSpec := { name := "exprBinds", fn := fun _ => fun
  | [d1, d2] => { results := [.lit (.bool false)], args := [d1, d2] }
  | _ => none }
def ExprBindsWrongFalsely : Prop := exprBindsRow.holds Tryd.pinned (OpenSpec.ofChange exprBindsWrong)

/-- 'leadlinelaw03.ExprWraps': WHATEVER THE INPUT: true; the input reads as it did. -/
def exprWrapsSpec : ChangeSpec := { name := "exprWraps", fn := fun _ => fun
  | [d1, d2, d3] => { results := [.lit (.bool true)], args := [d1, d2, d3] }
  | _ => none }
def exprWrapsRow : OpenClaim := { program := "ytcmbcbdijmknnaadoor", sum := "0ddaa4784b0eea052cea941238272eb62fe3376d7ddf9f597870ac6fd8d0a9e6", func := "leadline/leadlinelaw03.ExprWraps", spec := "exprWraps", unfollowed := true, recurses := true, named := ["leadline/expr.signs", "leadline/expr.binds", "internal/strconv.uint64pow10", "math/bits.deBruijn32tab", "math/bits.deBruijn64tab"], apart := false, laid := [("math/bits.deBruijn32tab", laid_math_bits_deBruijn32tab), ("math/bits.deBruijn64tab", laid_math_bits_deBruijn64tab), ("internal/strconv.uint64pow10", laid_internal_strconv_uint64pow10), ("leadline/expr.signs", laid_leadline_expr_signs), ("leadline/expr.binds", laid_leadline_expr_binds)] }
def ExprWrapsSaid : Prop := exprWrapsRow.holds Tryd.pinned (OpenSpec.ofChange exprWrapsSpec)

/-- ITS FALSE NEIGHBOUR: 'it returns false'. Refute it at one input. -/
def exprWrapsWrong : ChangeSpec := { name := "exprWraps", fn := fun _ => fun
  | [d1, d2, d3] => { results := [.lit (.bool false)], args := [d1, d2, d3] }
  | _ => none }
def ExprWrapsWrongFalsely : Prop := exprWrapsRow.holds Tryd.pinned (OpenSpec.ofChange exprWrapsWrong)

/- THE SECOND FORM. 'bulk': how many values and letters a reading holds, each counted each time it is reached (what is shared counts as often as it is met; a slice's spare places count too). A statement '..UptoSaid' is the law's where the arguments, and the package variables that the reading takes, are together of bulk at most 1048576: NARROWER than '..Said'. Prove '..Said' where nothing that the law and all that it calls make is longer than what came in: it says more and counts as full. Else prove '..UptoSaid'. A law counts once. -/
mutual
def uptoBulk {H : Type} : DataW H → Nat
  | .lit (.string bytes) => bytes.length + 1
  | .lit _ => 1
  | .nil => 1
  | .ptr d => uptoBulk d + 1
  | .slice elems spare => uptoBulkAll elems + uptoBulkAll spare + 1
  | .agg parts => uptoBulkAll parts + 1
  | .iface _ d => uptoBulk d + 1
  | .map entries => uptoBulkEntries entries + 1
  | .held _ => 1
def uptoBulkAll {H : Type} : List (DataW H) → Nat
  | [] => 0
  | d :: r => uptoBulk d + uptoBulkAll r
def uptoBulkEntries {H : Type} : List (Lit × DataW H) → Nat
  | [] => 0
  | x :: r => uptoBulkEntry x + uptoBulkEntries r
def uptoBulkEntry {H : Type} : Lit × DataW H → Nat
  | (.string bytes, d) => bytes.length + uptoBulk d + 1
  | (_, d) => uptoBulk d + 1
 end
def uptoSmall : (H : Type) → List (DataW H) → Bool := fun _ ds => decide (uptoBulkAll ds ≤ 1048576)
def OpenSpec.upto (s : _root_.Go.ChangeSpec) : _root_.Go.OpenSpec := { _root_.Go.OpenSpec.ofChange s with cond := some uptoSmall }

/-- 'leadlinelaw03.ExprParses', WHERE WHAT IT READS IS OF BULK AT MOST 1048576: true; the input reads as it did. -/
def exprParsesUptoRow : OpenClaim := { program := "ytcmbcbdijmknnaadoor", sum := "0ddaa4784b0eea052cea941238272eb62fe3376d7ddf9f597870ac6fd8d0a9e6", func := "leadline/leadlinelaw03.ExprParses", spec := "exprParses", unfollowed := true, recurses := true, named := ["leadline/expr.signs", "leadline/expr.binds", "internal/strconv.uint64pow10", "math/bits.deBruijn32tab", "math/bits.deBruijn64tab"], apart := false, laid := [("math/bits.deBruijn32tab", laid_math_bits_deBruijn32tab), ("math/bits.deBruijn64tab", laid_math_bits_deBruijn64tab), ("internal/strconv.uint64pow10", laid_internal_strconv_uint64pow10), ("leadline/expr.signs", laid_leadline_expr_signs), ("leadline/expr.binds", laid_leadline_expr_binds)], narrowed := true }
def ExprParsesUptoSaid : Prop := exprParsesUptoRow.holds Tryd.pinned (OpenSpec.upto exprParsesSpec)

/-- 'leadlinelaw03.ExprTokens', WHERE WHAT IT READS IS OF BULK AT MOST 1048576: true; the input reads as it did. -/
def exprTokensUptoRow : OpenClaim := { program := "ytcmbcbdijmknnaadoor", sum := "0ddaa4784b0eea052cea941238272eb62fe3376d7ddf9f597870ac6fd8d0a9e6", func := "leadline/leadlinelaw03.ExprTokens", spec := "exprTokens", unfollowed := true, recurses := true, named := ["leadline/expr.signs", "leadline/expr.binds", "internal/strconv.uint64pow10", "math/bits.deBruijn32tab", "math/bits.deBruijn64tab"], apart := false, laid := [("math/bits.deBruijn32tab", laid_math_bits_deBruijn32tab), ("math/bits.deBruijn64tab", laid_math_bits_deBruijn64tab), ("internal/strconv.uint64pow10", laid_internal_strconv_uint64pow10), ("leadline/expr.signs", laid_leadline_expr_signs), ("leadline/expr.binds", laid_leadline_expr_binds)], narrowed := true }
def ExprTokensUptoSaid : Prop := exprTokensUptoRow.holds Tryd.pinned (OpenSpec.upto exprTokensSpec)

/-- 'leadlinelaw03.ExprTells', WHERE WHAT IT READS IS OF BULK AT MOST 1048576: true; the input reads as it did. -/
def exprTellsUptoRow : OpenClaim := { program := "ytcmbcbdijmknnaadoor", sum := "0ddaa4784b0eea052cea941238272eb62fe3376d7ddf9f597870ac6fd8d0a9e6", func := "leadline/leadlinelaw03.ExprTells", spec := "exprTells", unfollowed := true, recurses := true, named := ["leadline/expr.signs", "internal/strconv.uint64pow10", "math/bits.deBruijn32tab", "math/bits.deBruijn64tab", "leadline/expr.binds"], apart := false, laid := [("math/bits.deBruijn32tab", laid_math_bits_deBruijn32tab), ("math/bits.deBruijn64tab", laid_math_bits_deBruijn64tab), ("internal/strconv.uint64pow10", laid_internal_strconv_uint64pow10), ("leadline/expr.signs", laid_leadline_expr_signs), ("leadline/expr.binds", laid_leadline_expr_binds)], narrowed := true }
def ExprTellsUptoSaid : Prop := exprTellsUptoRow.holds Tryd.pinned (OpenSpec.upto exprTellsSpec)

/-- 'leadlinelaw03.ExprBack', WHERE WHAT IT READS IS OF BULK AT MOST 1048576: true; the input reads as it did. -/
def exprBackUptoRow : OpenClaim := { program := "ytcmbcbdijmknnaadoor", sum := "0ddaa4784b0eea052cea941238272eb62fe3376d7ddf9f597870ac6fd8d0a9e6", func := "leadline/leadlinelaw03.ExprBack", spec := "exprBack", unfollowed := true, recurses := true, named := ["leadline/expr.signs", "leadline/expr.binds", "internal/strconv.uint64pow10", "math/bits.deBruijn32tab", "math/bits.deBruijn64tab"], apart := false, laid := [("math/bits.deBruijn32tab", laid_math_bits_deBruijn32tab), ("math/bits.deBruijn64tab", laid_math_bits_deBruijn64tab), ("internal/strconv.uint64pow10", laid_internal_strconv_uint64pow10), ("leadline/expr.signs", laid_leadline_expr_signs), ("leadline/expr.binds", laid_leadline_expr_binds)], narrowed := true }
def ExprBackUptoSaid : Prop := exprBackUptoRow.holds Tryd.pinned (OpenSpec.upto exprBackSpec)

/-- 'leadlinelaw03.ExprShown', WHERE WHAT IT READS IS OF BULK AT MOST 1048576: true; the input reads as it did. -/
def exprShownUptoRow : OpenClaim := { program := "ytcmbcbdijmknnaadoor", sum := "0ddaa4784b0eea052cea941238272eb62fe3376d7ddf9f597870ac6fd8d0a9e6", func := "leadline/leadlinelaw03.ExprShown", spec := "exprShown", unfollowed := true, recurses := true, named := ["leadline/expr.signs", "internal/strconv.uint64pow10", "math/bits.deBruijn32tab", "math/bits.deBruijn64tab", "leadline/expr.binds"], apart := false, laid := [("math/bits.deBruijn32tab", laid_math_bits_deBruijn32tab), ("math/bits.deBruijn64tab", laid_math_bits_deBruijn64tab), ("internal/strconv.uint64pow10", laid_internal_strconv_uint64pow10), ("leadline/expr.signs", laid_leadline_expr_signs), ("leadline/expr.binds", laid_leadline_expr_binds)], narrowed := true }
def ExprShownUptoSaid : Prop := exprShownUptoRow.holds Tryd.pinned (OpenSpec.upto exprShownSpec)

/-- 'leadlinelaw03.ExprParts', WHERE WHAT IT READS IS OF BULK AT MOST 1048576: true; the input reads as it did. -/
def exprPartsUptoRow : OpenClaim := { program := "ytcmbcbdijmknnaadoor", sum := "0ddaa4784b0eea052cea941238272eb62fe3376d7ddf9f597870ac6fd8d0a9e6", func := "leadline/leadlinelaw03.ExprParts", spec := "exprParts", unfollowed := true, recurses := true, named := ["leadline/expr.signs", "leadline/expr.binds", "internal/strconv.uint64pow10", "math/bits.deBruijn32tab", "math/bits.deBruijn64tab"], apart := false, laid := [("math/bits.deBruijn32tab", laid_math_bits_deBruijn32tab), ("math/bits.deBruijn64tab", laid_math_bits_deBruijn64tab), ("internal/strconv.uint64pow10", laid_internal_strconv_uint64pow10), ("leadline/expr.signs", laid_leadline_expr_signs), ("leadline/expr.binds", laid_leadline_expr_binds)], narrowed := true }
def ExprPartsUptoSaid : Prop := exprPartsUptoRow.holds Tryd.pinned (OpenSpec.upto exprPartsSpec)

/-- 'leadlinelaw03.ExprBinds', WHERE WHAT IT READS IS OF BULK AT MOST 1048576: true; the input reads as it did. -/
def exprBindsUptoRow : OpenClaim := { program := "ytcmbcbdijmknnaadoor", sum := "0ddaa4784b0eea052cea941238272eb62fe3376d7ddf9f597870ac6fd8d0a9e6", func := "leadline/leadlinelaw03.ExprBinds", spec := "exprBinds", unfollowed := true, recurses := true, named := ["leadline/expr.signs", "leadline/expr.binds", "internal/strconv.uint64pow10", "math/bits.deBruijn32tab", "math/bits.deBruijn64tab"], apart := false, laid := [("math/bits.deBruijn32tab", laid_math_bits_deBruijn32tab), ("math/bits.deBruijn64tab", laid_math_bits_deBruijn64tab), ("internal/strconv.uint64pow10", laid_internal_strconv_uint64pow10), ("leadline/expr.signs", laid_leadline_expr_signs), ("leadline/expr.binds", laid_leadline_expr_binds)], narrowed := true }
def ExprBindsUptoSaid : Prop := exprBindsUptoRow.holds Tryd.pinned (OpenSpec.upto exprBindsSpec)

/-- 'leadlinelaw03.ExprWraps', WHERE WHAT IT READS IS OF BULK AT MOST 1048576: true; the input reads as it did. -/
def exprWrapsUptoRow : OpenClaim := { program := "ytcmbcbdijmknnaadoor", sum := "0ddaa4784b0eea052cea941238272eb62fe3376d7ddf9f597870ac6fd8d0a9e6", func := "leadline/leadlinelaw03.ExprWraps", spec := "exprWraps", unfollowed := true, recurses := true, named := ["leadline/expr.signs", "leadline/expr.binds", "internal/strconv.uint64pow10", "math/bits.deBruijn32tab", "math/bits.deBruijn64tab"], apart := false, laid := [("math/bits.deBruijn32tab", laid_math_bits_deBruijn32tab), ("math/bits.deBruijn64tab", laid_math_bits_deBruijn64tab), ("internal/strconv.uint64pow10", laid_internal_strconv_uint64pow10), ("leadline/expr.signs", laid_leadline_expr_signs), ("leadline/expr.binds", laid_leadline_expr_binds)], narrowed := true }
def ExprWrapsUptoSaid : Prop := exprWrapsUptoRow.holds Tryd.pinned (OpenSpec.upto exprWrapsSpec)

end Rows
end Go.Proofs.YtcmbcbdijmknnaaDoor
