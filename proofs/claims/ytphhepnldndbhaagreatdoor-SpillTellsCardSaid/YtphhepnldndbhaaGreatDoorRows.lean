/-
  NARROWER THAN 'FOR EVERY INPUT', by the rows' own cells (each row's printed sentence says how): SpillTells: laid · SpillApart: laid · SpillReasons: laid · SpillMore: laid · SpillSmall: laid · SpillCover: laid · SpillBlocks: laid.
  DERIVED. THE GIVEN ROWS OF THIS SEAT. 7 by the template 'for every input the law returns true; each argument reads behind the call as it read before'; 0 by the template 'total and deterministic' (their statements: YtphhepnldndbhaaGreatDoorTotals.lean).
  GIVEN WITH THE SEED: the statements are not yours to turn. If you find one false, say at which input.
  Laid BY PROGRAM, IN A SANDBOX (cutbox-rows.mjs): the forced cells as the released guide's own fill.sh prints them over the translation a13d3e91f83ffc0a… (all of the seat's roots in one cut). By AI agents, Wed Nov 11 2026. No macro, syntax, notation, axiom, sorry.
-/
import Derived.Test.YtphhepnldndbhaaGreatDoorChecked
import GoSem.PinnedTables
import GoSem.Claim
import GoSem.ClaimJoined
import GoSem.ClaimMapViews
import Derived.JoinedTies
import Derived.KernelRfl
namespace Go.Proofs.YtphhepnldndbhaaGreatDoor
/- THE CELL 'sum', in the pinned program and in every row, IS THE sha256 OF THE DUMP (.gsa) THAT YtphhepnldndbhaaGreatDoorProg.lean LOADS. Nothing in Lean hashes anything: it is a label: what it is worth is what the hold of that sum in a sandbox is worth. -/
noncomputable def Tryz.pinned : Pinned := { name := "ytphhepnldndbhaagreatdoor", sum := "a13d3e91f83ffc0a6c4c8ec06932f2f1d41c06622ae9b1451382e2c546b44f17", checked := Tryz.checked }
namespace Rows
def none {H : Type} : Left H := { results := [], args := [] }

/- WHAT THE LISTED PACKAGE-LEVEL VARIABLES READ AS WHEN THE CALL BEGINS. Each datum BY PROGRAM (the guide's laid-datum.mjs) off the statement by which the dump's own 'gosem.cut.vars' lays the variable. In a bare row this is a premise. The card (YtphhepnldndbhaaGreatDoorCards.lean) ties it to the program's text. -/
def laid_math_bits_deBruijn32tab {H : Type} : DataW H := .agg [.lit (.int .u8 0), .lit (.int .u8 1), .lit (.int .u8 28), .lit (.int .u8 2), .lit (.int .u8 29), .lit (.int .u8 14), .lit (.int .u8 24), .lit (.int .u8 3), .lit (.int .u8 30), .lit (.int .u8 22), .lit (.int .u8 20), .lit (.int .u8 15), .lit (.int .u8 25), .lit (.int .u8 17), .lit (.int .u8 4), .lit (.int .u8 8), .lit (.int .u8 31), .lit (.int .u8 27), .lit (.int .u8 13), .lit (.int .u8 23), .lit (.int .u8 21), .lit (.int .u8 19), .lit (.int .u8 16), .lit (.int .u8 7), .lit (.int .u8 26), .lit (.int .u8 12), .lit (.int .u8 18), .lit (.int .u8 6), .lit (.int .u8 11), .lit (.int .u8 5), .lit (.int .u8 10), .lit (.int .u8 9)]
def laid_math_bits_deBruijn64tab {H : Type} : DataW H := .agg [.lit (.int .u8 0), .lit (.int .u8 1), .lit (.int .u8 56), .lit (.int .u8 2), .lit (.int .u8 57), .lit (.int .u8 49), .lit (.int .u8 28), .lit (.int .u8 3), .lit (.int .u8 61), .lit (.int .u8 58), .lit (.int .u8 42), .lit (.int .u8 50), .lit (.int .u8 38), .lit (.int .u8 29), .lit (.int .u8 17), .lit (.int .u8 4), .lit (.int .u8 62), .lit (.int .u8 47), .lit (.int .u8 59), .lit (.int .u8 36), .lit (.int .u8 45), .lit (.int .u8 43), .lit (.int .u8 51), .lit (.int .u8 22), .lit (.int .u8 53), .lit (.int .u8 39), .lit (.int .u8 33), .lit (.int .u8 30), .lit (.int .u8 24), .lit (.int .u8 18), .lit (.int .u8 12), .lit (.int .u8 5), .lit (.int .u8 63), .lit (.int .u8 55), .lit (.int .u8 48), .lit (.int .u8 27), .lit (.int .u8 60), .lit (.int .u8 41), .lit (.int .u8 37), .lit (.int .u8 16), .lit (.int .u8 46), .lit (.int .u8 35), .lit (.int .u8 44), .lit (.int .u8 21), .lit (.int .u8 52), .lit (.int .u8 32), .lit (.int .u8 23), .lit (.int .u8 11), .lit (.int .u8 54), .lit (.int .u8 26), .lit (.int .u8 40), .lit (.int .u8 15), .lit (.int .u8 34), .lit (.int .u8 20), .lit (.int .u8 31), .lit (.int .u8 10), .lit (.int .u8 25), .lit (.int .u8 14), .lit (.int .u8 19), .lit (.int .u8 9), .lit (.int .u8 13), .lit (.int .u8 8), .lit (.int .u8 7), .lit (.int .u8 6)]
def laid_internal_strconv_uint64pow10 {H : Type} : DataW H := .agg [.lit (.int .u64 1), .lit (.int .u64 10), .lit (.int .u64 100), .lit (.int .u64 1000), .lit (.int .u64 10000), .lit (.int .u64 100000), .lit (.int .u64 1000000), .lit (.int .u64 10000000), .lit (.int .u64 100000000), .lit (.int .u64 1000000000), .lit (.int .u64 10000000000), .lit (.int .u64 100000000000), .lit (.int .u64 1000000000000), .lit (.int .u64 10000000000000), .lit (.int .u64 100000000000000), .lit (.int .u64 1000000000000000), .lit (.int .u64 10000000000000000), .lit (.int .u64 100000000000000000), .lit (.int .u64 1000000000000000000), .lit (.int .u64 10000000000000000000)]
def laid_unicode_utf8_acceptRanges {H : Type} : DataW H := .agg [.agg [.lit (.int .u8 128), .lit (.int .u8 191)], .agg [.lit (.int .u8 160), .lit (.int .u8 191)], .agg [.lit (.int .u8 128), .lit (.int .u8 159)], .agg [.lit (.int .u8 144), .lit (.int .u8 191)], .agg [.lit (.int .u8 128), .lit (.int .u8 143)], .agg [.lit (.int .u8 0), .lit (.int .u8 0)], .agg [.lit (.int .u8 0), .lit (.int .u8 0)], .agg [.lit (.int .u8 0), .lit (.int .u8 0)], .agg [.lit (.int .u8 0), .lit (.int .u8 0)], .agg [.lit (.int .u8 0), .lit (.int .u8 0)], .agg [.lit (.int .u8 0), .lit (.int .u8 0)], .agg [.lit (.int .u8 0), .lit (.int .u8 0)], .agg [.lit (.int .u8 0), .lit (.int .u8 0)], .agg [.lit (.int .u8 0), .lit (.int .u8 0)], .agg [.lit (.int .u8 0), .lit (.int .u8 0)], .agg [.lit (.int .u8 0), .lit (.int .u8 0)]]
def laid_strconv_ErrRange {H : Type} : DataW H := .iface "*errors.errorString" (.ptr (.agg [.lit (.string [118, 97, 108, 117, 101, 32, 111, 117, 116, 32, 111, 102, 32, 114, 97, 110, 103, 101])]))
def laid_strconv_ErrSyntax {H : Type} : DataW H := .iface "*errors.errorString" (.ptr (.agg [.lit (.string [105, 110, 118, 97, 108, 105, 100, 32, 115, 121, 110, 116, 97, 120])]))
def laid_tabula_lex_faults {H : Type} : DataW H := .agg [.lit (.string [35, 78, 85, 76, 76, 33]), .lit (.string [35, 68, 73, 86, 47, 48, 33]), .lit (.string [35, 86, 65, 76, 85, 69, 33]), .lit (.string [35, 82, 69, 70, 33]), .lit (.string [35, 78, 65, 77, 69, 63]), .lit (.string [35, 78, 85, 77, 33]), .lit (.string [35, 78, 47, 65]), .lit (.string [35, 83, 80, 73, 76, 76, 33]), .lit (.string [35, 67, 73, 82, 67, 33])]
def laid_tabula_val_faults {H : Type} : DataW H := .agg [.lit (.string []), .lit (.string [35, 78, 85, 76, 76, 33]), .lit (.string [35, 68, 73, 86, 47, 48, 33]), .lit (.string [35, 86, 65, 76, 85, 69, 33]), .lit (.string [35, 82, 69, 70, 33]), .lit (.string [35, 78, 65, 77, 69, 63]), .lit (.string [35, 78, 85, 77, 33]), .lit (.string [35, 78, 47, 65]), .lit (.string [35, 83, 80, 73, 76, 76, 33]), .lit (.string [35, 67, 73, 82, 67, 33])]
/-- One of Go's own tables, pinned by name: the form's constant. -/
def laid_unicode_utf8_first : DataW Unit := Go.Pinned.utf8First

/-- 'tabulalaw14.SpillTells': WHATEVER THE INPUT: true; the input reads as it did. -/
def spillTellsSpec : ChangeSpec := { name := "spillTells", fn := fun _ => fun
  | [d1, d2, d3, d4, d5, d6] => { results := [.lit (.bool true)], args := [d1, d2, d3, d4, d5, d6] }
  | _ => none }
def spillTellsRow : OpenClaim := { program := "ytphhepnldndbhaagreatdoor", sum := "a13d3e91f83ffc0a6c4c8ec06932f2f1d41c06622ae9b1451382e2c546b44f17", func := "tabula/tabulalaw14.SpillTells", spec := "spillTells", inPlace := ["internal/bytealg.IndexByteString", "internal/bytealg.IndexString", "internal/bytealg.CountString", "internal/abi.NoEscape", "internal/bytealg.MakeNoZero"], unfollowed := true, recurses := true, named := ["unicode/utf8.first", "unicode/utf8.acceptRanges", "tabula/val.faults", "internal/bytealg.MaxLen", "tabula/lex.faults", "strconv.ErrSyntax", "strconv.ErrRange", "internal/strconv.uint64pow10", "math/bits.deBruijn32tab", "math/bits.deBruijn64tab"], plainKeys := false, apart := false, laid := [("math/bits.deBruijn32tab", laid_math_bits_deBruijn32tab), ("math/bits.deBruijn64tab", laid_math_bits_deBruijn64tab), ("internal/strconv.uint64pow10", laid_internal_strconv_uint64pow10), ("unicode/utf8.acceptRanges", laid_unicode_utf8_acceptRanges), ("strconv.ErrRange", laid_strconv_ErrRange), ("strconv.ErrSyntax", laid_strconv_ErrSyntax), ("tabula/lex.faults", laid_tabula_lex_faults), ("tabula/val.faults", laid_tabula_val_faults), ("unicode/utf8.first", laid_unicode_utf8_first)] }
def SpillTellsSaid : Prop := spillTellsRow.holds Tryz.pinned (OpenSpec.ofChange spillTellsSpec)

/-- ITS FALSE NEIGHBOUR: 'it returns false'. Refute it at one input. -/
def spillTellsWrong : ChangeSpec := { name := "spillTells", fn := fun _ => fun
  | [d1, d2, d3, d4, d5, d6] => { results := [.lit (.bool false)], args := [d1, d2, d3, d4, d5, d6] }
  | _ => none }
def SpillTellsWrongFalsely : Prop := spillTellsRow.holds Tryz.pinned (OpenSpec.ofChange spillTellsWrong)

/-- 'tabulalaw14.SpillApart': WHATEVER THE INPUT: true; the input reads as it did. -/
def spillApartSpec : ChangeSpec := { name := "spillApart", fn := fun _ => fun
  | [d1, d2] => { results := [.lit (.bool true)], args := [d1, d2] }
  | _ => none }
def spillApartRow : OpenClaim := { program := "ytphhepnldndbhaagreatdoor", sum := "a13d3e91f83ffc0a6c4c8ec06932f2f1d41c06622ae9b1451382e2c546b44f17", func := "tabula/tabulalaw14.SpillApart", spec := "spillApart", inPlace := ["internal/bytealg.IndexByteString", "internal/bytealg.IndexString", "internal/bytealg.CountString", "internal/abi.NoEscape", "internal/bytealg.MakeNoZero"], unfollowed := true, recurses := true, named := ["unicode/utf8.first", "unicode/utf8.acceptRanges", "tabula/val.faults", "internal/bytealg.MaxLen", "tabula/lex.faults", "strconv.ErrSyntax", "strconv.ErrRange", "internal/strconv.uint64pow10", "math/bits.deBruijn32tab", "math/bits.deBruijn64tab"], plainKeys := false, apart := false, laid := [("math/bits.deBruijn32tab", laid_math_bits_deBruijn32tab), ("math/bits.deBruijn64tab", laid_math_bits_deBruijn64tab), ("internal/strconv.uint64pow10", laid_internal_strconv_uint64pow10), ("unicode/utf8.acceptRanges", laid_unicode_utf8_acceptRanges), ("strconv.ErrRange", laid_strconv_ErrRange), ("strconv.ErrSyntax", laid_strconv_ErrSyntax), ("tabula/lex.faults", laid_tabula_lex_faults), ("tabula/val.faults", laid_tabula_val_faults), ("unicode/utf8.first", laid_unicode_utf8_first)] }
def SpillApartSaid : Prop := spillApartRow.holds Tryz.pinned (OpenSpec.ofChange spillApartSpec)

/-- ITS FALSE NEIGHBOUR: 'it returns false'. Refute it at one input. -/
def spillApartWrong : ChangeSpec := { name := "spillApart", fn := fun _ => fun
  | [d1, d2] => { results := [.lit (.bool false)], args := [d1, d2] }
  | _ => none }
def SpillApartWrongFalsely : Prop := spillApartRow.holds Tryz.pinned (OpenSpec.ofChange spillApartWrong)

/-- 'tabulalaw14.SpillReasons': WHATEVER THE INPUT: true; the input reads as it did. -/
def spillReasonsSpec : ChangeSpec := { name := "spillReasons", fn := fun _ => fun
  | [d1, d2] => { results := [.lit (.bool true)], args := [d1, d2] }
  | _ => none }
def spillReasonsRow : OpenClaim := { program := "ytphhepnldndbhaagreatdoor", sum := "a13d3e91f83ffc0a6c4c8ec06932f2f1d41c06622ae9b1451382e2c546b44f17", func := "tabula/tabulalaw14.SpillReasons", spec := "spillReasons", inPlace := ["internal/bytealg.IndexByteString", "internal/bytealg.IndexString", "internal/bytealg.CountString", "internal/abi.NoEscape", "internal/bytealg.MakeNoZero"], unfollowed := true, recurses := true, named := ["unicode/utf8.first", "unicode/utf8.acceptRanges", "tabula/val.faults", "internal/bytealg.MaxLen", "tabula/lex.faults", "strconv.ErrSyntax", "strconv.ErrRange", "internal/strconv.uint64pow10", "math/bits.deBruijn32tab", "math/bits.deBruijn64tab"], plainKeys := false, apart := false, laid := [("math/bits.deBruijn32tab", laid_math_bits_deBruijn32tab), ("math/bits.deBruijn64tab", laid_math_bits_deBruijn64tab), ("internal/strconv.uint64pow10", laid_internal_strconv_uint64pow10), ("unicode/utf8.acceptRanges", laid_unicode_utf8_acceptRanges), ("strconv.ErrRange", laid_strconv_ErrRange), ("strconv.ErrSyntax", laid_strconv_ErrSyntax), ("tabula/lex.faults", laid_tabula_lex_faults), ("tabula/val.faults", laid_tabula_val_faults), ("unicode/utf8.first", laid_unicode_utf8_first)] }
def SpillReasonsSaid : Prop := spillReasonsRow.holds Tryz.pinned (OpenSpec.ofChange spillReasonsSpec)

/-- ITS FALSE NEIGHBOUR: 'it returns false'. Refute it at one input. -/
def spillReasonsWrong : ChangeSpec := { name := "spillReasons", fn := fun _ => fun
  | [d1, d2] => { results := [.lit (.bool false)], args := [d1, d2] }
  | _ => none }
def SpillReasonsWrongFalsely : Prop := spillReasonsRow.holds Tryz.pinned (OpenSpec.ofChange spillReasonsWrong)

/-- 'tabulalaw14.SpillMore': WHATEVER THE INPUT: true; the input reads as it did. -/
def spillMoreSpec : ChangeSpec := { name := "spillMore", fn := fun _ => fun
  | [d1, d2, d3] => { results := [.lit (.bool true)], args := [d1, d2, d3] }
  | _ => none }
def spillMoreRow : OpenClaim := { program := "ytphhepnldndbhaagreatdoor", sum := "a13d3e91f83ffc0a6c4c8ec06932f2f1d41c06622ae9b1451382e2c546b44f17", func := "tabula/tabulalaw14.SpillMore", spec := "spillMore", inPlace := ["internal/bytealg.IndexByteString", "internal/bytealg.IndexString", "internal/bytealg.CountString", "internal/abi.NoEscape", "internal/bytealg.MakeNoZero"], unfollowed := true, recurses := true, named := ["unicode/utf8.first", "unicode/utf8.acceptRanges", "tabula/val.faults", "internal/bytealg.MaxLen", "tabula/lex.faults", "strconv.ErrSyntax", "strconv.ErrRange", "internal/strconv.uint64pow10", "math/bits.deBruijn32tab", "math/bits.deBruijn64tab"], plainKeys := false, apart := false, laid := [("math/bits.deBruijn32tab", laid_math_bits_deBruijn32tab), ("math/bits.deBruijn64tab", laid_math_bits_deBruijn64tab), ("internal/strconv.uint64pow10", laid_internal_strconv_uint64pow10), ("unicode/utf8.acceptRanges", laid_unicode_utf8_acceptRanges), ("strconv.ErrRange", laid_strconv_ErrRange), ("strconv.ErrSyntax", laid_strconv_ErrSyntax), ("tabula/lex.faults", laid_tabula_lex_faults), ("tabula/val.faults", laid_tabula_val_faults), ("unicode/utf8.first", laid_unicode_utf8_first)] }
def SpillMoreSaid : Prop := spillMoreRow.holds Tryz.pinned (OpenSpec.ofChange spillMoreSpec)

/-- ITS FALSE NEIGHBOUR: 'it returns false'. Refute it at one input. -/
def spillMoreWrong : ChangeSpec := { name := "spillMore", fn := fun _ => fun
  | [d1, d2, d3] => { results := [.lit (.bool false)], args := [d1, d2, d3] }
  | _ => none }
def SpillMoreWrongFalsely : Prop := spillMoreRow.holds Tryz.pinned (OpenSpec.ofChange spillMoreWrong)

/-- 'tabulalaw14.SpillSmall': WHATEVER THE INPUT: true; the input reads as it did. -/
def spillSmallSpec : ChangeSpec := { name := "spillSmall", fn := fun _ => fun
  | [d1, d2, d3, d4, d5] => { results := [.lit (.bool true)], args := [d1, d2, d3, d4, d5] }
  | _ => none }
def spillSmallRow : OpenClaim := { program := "ytphhepnldndbhaagreatdoor", sum := "a13d3e91f83ffc0a6c4c8ec06932f2f1d41c06622ae9b1451382e2c546b44f17", func := "tabula/tabulalaw14.SpillSmall", spec := "spillSmall", inPlace := ["internal/bytealg.IndexByteString", "internal/bytealg.IndexString", "internal/bytealg.CountString", "internal/abi.NoEscape", "internal/bytealg.MakeNoZero"], unfollowed := true, recurses := true, named := ["unicode/utf8.first", "unicode/utf8.acceptRanges", "tabula/val.faults", "internal/bytealg.MaxLen", "tabula/lex.faults", "strconv.ErrSyntax", "strconv.ErrRange", "internal/strconv.uint64pow10", "math/bits.deBruijn32tab", "math/bits.deBruijn64tab"], plainKeys := false, apart := false, laid := [("math/bits.deBruijn32tab", laid_math_bits_deBruijn32tab), ("math/bits.deBruijn64tab", laid_math_bits_deBruijn64tab), ("internal/strconv.uint64pow10", laid_internal_strconv_uint64pow10), ("unicode/utf8.acceptRanges", laid_unicode_utf8_acceptRanges), ("strconv.ErrRange", laid_strconv_ErrRange), ("strconv.ErrSyntax", laid_strconv_ErrSyntax), ("tabula/lex.faults", laid_tabula_lex_faults), ("tabula/val.faults", laid_tabula_val_faults), ("unicode/utf8.first", laid_unicode_utf8_first)] }
def SpillSmallSaid : Prop := spillSmallRow.holds Tryz.pinned (OpenSpec.ofChange spillSmallSpec)

/-- ITS FALSE NEIGHBOUR: 'it returns false'. Refute it at one input. -/
def spillSmallWrong : ChangeSpec := { name := "spillSmall", fn := fun _ => fun
  | [d1, d2, d3, d4, d5] => { results := [.lit (.bool false)], args := [d1, d2, d3, d4, d5] }
  | _ => none }
def SpillSmallWrongFalsely : Prop := spillSmallRow.holds Tryz.pinned (OpenSpec.ofChange spillSmallWrong)

/-- 'tabulalaw14.SpillCover': WHATEVER THE INPUT: true; the input reads as it did. -/
def spillCoverSpec : ChangeSpec := { name := "spillCover", fn := fun _ => fun
  | [d1, d2, d3] => { results := [.lit (.bool true)], args := [d1, d2, d3] }
  | _ => none }
def spillCoverRow : OpenClaim := { program := "ytphhepnldndbhaagreatdoor", sum := "a13d3e91f83ffc0a6c4c8ec06932f2f1d41c06622ae9b1451382e2c546b44f17", func := "tabula/tabulalaw14.SpillCover", spec := "spillCover", inPlace := ["internal/bytealg.IndexByteString", "internal/bytealg.IndexString", "internal/bytealg.CountString", "internal/abi.NoEscape", "internal/bytealg.MakeNoZero"], unfollowed := true, recurses := true, named := ["unicode/utf8.first", "unicode/utf8.acceptRanges", "tabula/val.faults", "internal/bytealg.MaxLen", "tabula/lex.faults", "strconv.ErrSyntax", "strconv.ErrRange", "internal/strconv.uint64pow10", "math/bits.deBruijn32tab", "math/bits.deBruijn64tab"], plainKeys := false, apart := false, laid := [("math/bits.deBruijn32tab", laid_math_bits_deBruijn32tab), ("math/bits.deBruijn64tab", laid_math_bits_deBruijn64tab), ("internal/strconv.uint64pow10", laid_internal_strconv_uint64pow10), ("unicode/utf8.acceptRanges", laid_unicode_utf8_acceptRanges), ("strconv.ErrRange", laid_strconv_ErrRange), ("strconv.ErrSyntax", laid_strconv_ErrSyntax), ("tabula/lex.faults", laid_tabula_lex_faults), ("tabula/val.faults", laid_tabula_val_faults), ("unicode/utf8.first", laid_unicode_utf8_first)] }
def SpillCoverSaid : Prop := spillCoverRow.holds Tryz.pinned (OpenSpec.ofChange spillCoverSpec)

/-- ITS FALSE NEIGHBOUR: 'it returns false'. Refute it at one input. -/
def spillCoverWrong : ChangeSpec := { name := "spillCover", fn := fun _ => fun
  | [d1, d2, d3] => { results := [.lit (.bool false)], args := [d1, d2, d3] }
  | _ => none }
def SpillCoverWrongFalsely : Prop := spillCoverRow.holds Tryz.pinned (OpenSpec.ofChange spillCoverWrong)

/-- 'tabulalaw14.SpillBlocks': WHATEVER THE INPUT: true; the input reads as it did. -/
def spillBlocksSpec : ChangeSpec := { name := "spillBlocks", fn := fun _ => fun
  | [d1, d2, d3, d4] => { results := [.lit (.bool true)], args := [d1, d2, d3, d4] }
  | _ => none }
def spillBlocksRow : OpenClaim := { program := "ytphhepnldndbhaagreatdoor", sum := "a13d3e91f83ffc0a6c4c8ec06932f2f1d41c06622ae9b1451382e2c546b44f17", func := "tabula/tabulalaw14.SpillBlocks", spec := "spillBlocks", inPlace := ["internal/bytealg.IndexByteString", "internal/bytealg.IndexString", "internal/bytealg.CountString", "internal/abi.NoEscape", "internal/bytealg.MakeNoZero", "slices.overlaps[tabula/api.Cell]"], unfollowed := true, recurses := true, named := ["unicode/utf8.first", "unicode/utf8.acceptRanges", "tabula/val.faults", "internal/bytealg.MaxLen", "tabula/lex.faults", "strconv.ErrSyntax", "strconv.ErrRange", "internal/strconv.uint64pow10", "math/bits.deBruijn32tab", "math/bits.deBruijn64tab"], plainKeys := false, apart := false, laid := [("math/bits.deBruijn32tab", laid_math_bits_deBruijn32tab), ("math/bits.deBruijn64tab", laid_math_bits_deBruijn64tab), ("internal/strconv.uint64pow10", laid_internal_strconv_uint64pow10), ("unicode/utf8.acceptRanges", laid_unicode_utf8_acceptRanges), ("strconv.ErrRange", laid_strconv_ErrRange), ("strconv.ErrSyntax", laid_strconv_ErrSyntax), ("tabula/lex.faults", laid_tabula_lex_faults), ("tabula/val.faults", laid_tabula_val_faults), ("unicode/utf8.first", laid_unicode_utf8_first)] }
def SpillBlocksSaid : Prop := spillBlocksRow.holds Tryz.pinned (OpenSpec.ofChange spillBlocksSpec)

/-- ITS FALSE NEIGHBOUR: 'it returns false'. Refute it at one input. -/
def spillBlocksWrong : ChangeSpec := { name := "spillBlocks", fn := fun _ => fun
  | [d1, d2, d3, d4] => { results := [.lit (.bool false)], args := [d1, d2, d3, d4] }
  | _ => none }
def SpillBlocksWrongFalsely : Prop := spillBlocksRow.holds Tryz.pinned (OpenSpec.ofChange spillBlocksWrong)

/- THE SECOND FORM. 'bulk': how many values and letters a reading holds, each counted each time it is reached (what is shared counts as often as it is met; a slice's spare places count too). A statement '..UptoSaid' is the law's where the arguments, and the package variables that the reading takes, are together of bulk at most 1048576: NARROWER than '..Said'. Prove '..Said' where nothing that the law and all that it calls make is longer than what came in: it says more and counts as full. Else prove '..UptoSaid'. A law counts once. -/
mutual
def uptoBulk {H : Type} : DataW H → Nat
  | .lit (.string bytes) => bytes.length + 1
  | .lit _ => 1
  | .nil => 1
  | .ptr d => uptoBulk d + 1
  | .slice elems spare => uptoBulkAll elems + uptoBulkAll spare + 1
  | .agg parts => uptoBulkAll parts + 1
  | .iface _ d => uptoBulk d + 1
  | .map entries => uptoBulkEntries entries + 1
  | .held _ => 1
def uptoBulkAll {H : Type} : List (DataW H) → Nat
  | [] => 0
  | d :: r => uptoBulk d + uptoBulkAll r
def uptoBulkEntries {H : Type} : List (Lit × DataW H) → Nat
  | [] => 0
  | x :: r => uptoBulkEntry x + uptoBulkEntries r
def uptoBulkEntry {H : Type} : Lit × DataW H → Nat
  | (.string bytes, d) => bytes.length + uptoBulk d + 1
  | (_, d) => uptoBulk d + 1
 end
def uptoSmall : (H : Type) → List (DataW H) → Bool := fun _ ds => decide (uptoBulkAll ds ≤ 1048576)
def OpenSpec.upto (s : _root_.Go.ChangeSpec) : _root_.Go.OpenSpec := { _root_.Go.OpenSpec.ofChange s with cond := some uptoSmall }

/-- 'tabulalaw14.SpillTells', WHERE WHAT IT READS IS OF BULK AT MOST 1048576: true; the input reads as it did. -/
def spillTellsUptoRow : OpenClaim := { program := "ytphhepnldndbhaagreatdoor", sum := "a13d3e91f83ffc0a6c4c8ec06932f2f1d41c06622ae9b1451382e2c546b44f17", func := "tabula/tabulalaw14.SpillTells", spec := "spillTells", inPlace := ["internal/bytealg.IndexByteString", "internal/bytealg.IndexString", "internal/bytealg.CountString", "internal/abi.NoEscape", "internal/bytealg.MakeNoZero"], unfollowed := true, recurses := true, named := ["unicode/utf8.first", "unicode/utf8.acceptRanges", "tabula/val.faults", "internal/bytealg.MaxLen", "tabula/lex.faults", "strconv.ErrSyntax", "strconv.ErrRange", "internal/strconv.uint64pow10", "math/bits.deBruijn32tab", "math/bits.deBruijn64tab"], plainKeys := false, apart := false, laid := [("math/bits.deBruijn32tab", laid_math_bits_deBruijn32tab), ("math/bits.deBruijn64tab", laid_math_bits_deBruijn64tab), ("internal/strconv.uint64pow10", laid_internal_strconv_uint64pow10), ("unicode/utf8.acceptRanges", laid_unicode_utf8_acceptRanges), ("strconv.ErrRange", laid_strconv_ErrRange), ("strconv.ErrSyntax", laid_strconv_ErrSyntax), ("tabula/lex.faults", laid_tabula_lex_faults), ("tabula/val.faults", laid_tabula_val_faults), ("unicode/utf8.first", laid_unicode_utf8_first)], narrowed := true }
def SpillTellsUptoSaid : Prop := spillTellsUptoRow.holds Tryz.pinned (OpenSpec.upto spillTellsSpec)

/-- 'tabulalaw14.SpillApart', WHERE WHAT IT READS IS OF BULK AT MOST 1048576: true; the input reads as it did. -/
def spillApartUptoRow : OpenClaim := { program := "ytphhepnldndbhaagreatdoor", sum := "a13d3e91f83ffc0a6c4c8ec06932f2f1d41c06622ae9b1451382e2c546b44f17", func := "tabula/tabulalaw14.SpillApart", spec := "spillApart", inPlace := ["internal/bytealg.IndexByteString", "internal/bytealg.IndexString", "internal/bytealg.CountString", "internal/abi.NoEscape", "internal/bytealg.MakeNoZero"], unfollowed := true, recurses := true, named := ["unicode/utf8.first", "unicode/utf8.acceptRanges", "tabula/val.faults", "internal/bytealg.MaxLen", "tabula/lex.faults", "strconv.ErrSyntax", "strconv.ErrRange", "internal/strconv.uint64pow10", "math/bits.deBruijn32tab", "math/bits.deBruijn64tab"], plainKeys := false, apart := false, laid := [("math/bits.deBruijn32tab", laid_math_bits_deBruijn32tab), ("math/bits.deBruijn64tab", laid_math_bits_deBruijn64tab), ("internal/strconv.uint64pow10", laid_internal_strconv_uint64pow10), ("unicode/utf8.acceptRanges", laid_unicode_utf8_acceptRanges), ("strconv.ErrRange", laid_strconv_ErrRange), ("strconv.ErrSyntax", laid_strconv_ErrSyntax), ("tabula/lex.faults", laid_tabula_lex_faults), ("tabula/val.faults", laid_tabula_val_faults), ("unicode/utf8.first", laid_unicode_utf8_first)], narrowed := true }
def SpillApartUptoSaid : Prop := spillApartUptoRow.holds Tryz.pinned (OpenSpec.upto spillApartSpec)

/-- 'tabulalaw14.SpillReasons', WHERE WHAT IT READS IS OF BULK AT MOST 1048576: true; the input reads as it did. -/
def spillReasonsUptoRow : OpenClaim := { program := "ytphhepnldndbhaagreatdoor", sum := "a13d3e91f83ffc0a6c4c8ec06932f2f1d41c06622ae9b1451382e2c546b44f17", func := "tabula/tabulalaw14.SpillReasons", spec := "spillReasons", inPlace := ["internal/bytealg.IndexByteString", "internal/bytealg.IndexString", "internal/bytealg.CountString", "internal/abi.NoEscape", "internal/bytealg.MakeNoZero"], unfollowed := true, recurses := true, named := ["unicode/utf8.first", "unicode/utf8.acceptRanges", "tabula/val.faults", "internal/bytealg.MaxLen", "tabula/lex.faults", "strconv.ErrSyntax", "strconv.ErrRange", "internal/strconv.uint64pow10", "math/bits.deBruijn32tab", "math/bits.deBruijn64tab"], plainKeys := false, apart := false, laid := [("math/bits.deBruijn32tab", laid_math_bits_deBruijn32tab), ("math/bits.deBruijn64tab", laid_math_bits_deBruijn64tab), ("internal/strconv.uint64pow10", laid_internal_strconv_uint64pow10), ("unicode/utf8.acceptRanges", laid_unicode_utf8_acceptRanges), ("strconv.ErrRange", laid_strconv_ErrRange), ("strconv.ErrSyntax", laid_strconv_ErrSyntax), ("tabula/lex.faults", laid_tabula_lex_faults), ("tabula/val.faults", laid_tabula_val_faults), ("unicode/utf8.first", laid_unicode_utf8_first)], narrowed := true }
def SpillReasonsUptoSaid : Prop := spillReasonsUptoRow.holds Tryz.pinned (OpenSpec.upto spillReasonsSpec)

/-- 'tabulalaw14.SpillMore', WHERE WHAT IT READS IS OF BULK AT MOST 1048576: true; the input reads as it did. -/
def spillMoreUptoRow : OpenClaim := { program := "ytphhepnldndbhaagreatdoor", sum := "a13d3e91f83ffc0a6c4c8ec06932f2f1d41c06622ae9b1451382e2c546b44f17", func := "tabula/tabulalaw14.SpillMore", spec := "spillMore", inPlace := ["internal/bytealg.IndexByteString", "internal/bytealg.IndexString", "internal/bytealg.CountString", "internal/abi.NoEscape", "internal/bytealg.MakeNoZero"], unfollowed := true, recurses := true, named := ["unicode/utf8.first", "unicode/utf8.acceptRanges", "tabula/val.faults", "internal/bytealg.MaxLen", "tabula/lex.faults", "strconv.ErrSyntax", "strconv.ErrRange", "internal/strconv.uint64pow10", "math/bits.deBruijn32tab", "math/bits.deBruijn64tab"], plainKeys := false, apart := false, laid := [("math/bits.deBruijn32tab", laid_math_bits_deBruijn32tab), ("math/bits.deBruijn64tab", laid_math_bits_deBruijn64tab), ("internal/strconv.uint64pow10", laid_internal_strconv_uint64pow10), ("unicode/utf8.acceptRanges", laid_unicode_utf8_acceptRanges), ("strconv.ErrRange", laid_strconv_ErrRange), ("strconv.ErrSyntax", laid_strconv_ErrSyntax), ("tabula/lex.faults", laid_tabula_lex_faults), ("tabula/val.faults", laid_tabula_val_faults), ("unicode/utf8.first", laid_unicode_utf8_first)], narrowed := true }
def SpillMoreUptoSaid : Prop := spillMoreUptoRow.holds Tryz.pinned (OpenSpec.upto spillMoreSpec)

/-- 'tabulalaw14.SpillSmall', WHERE WHAT IT READS IS OF BULK AT MOST 1048576: true; the input reads as it did. -/
def spillSmallUptoRow : OpenClaim := { program := "ytphhepnldndbhaagreatdoor", sum := "a13d3e91f83ffc0a6c4c8ec06932f2f1d41c06622ae9b1451382e2c546b44f17", func := "tabula/tabulalaw14.SpillSmall", spec := "spillSmall", inPlace := ["internal/bytealg.IndexByteString", "internal/bytealg.IndexString", "internal/bytealg.CountString", "internal/abi.NoEscape", "internal/bytealg.MakeNoZero"], unfollowed := true, recurses := true, named := ["unicode/utf8.first", "unicode/utf8.acceptRanges", "tabula/val.faults", "internal/bytealg.MaxLen", "tabula/lex.faults", "strconv.ErrSyntax", "strconv.ErrRange", "internal/strconv.uint64pow10", "math/bits.deBruijn32tab", "math/bits.deBruijn64tab"], plainKeys := false, apart := false, laid := [("math/bits.deBruijn32tab", laid_math_bits_deBruijn32tab), ("math/bits.deBruijn64tab", laid_math_bits_deBruijn64tab), ("internal/strconv.uint64pow10", laid_internal_strconv_uint64pow10), ("unicode/utf8.acceptRanges", laid_unicode_utf8_acceptRanges), ("strconv.ErrRange", laid_strconv_ErrRange), ("strconv.ErrSyntax", laid_strconv_ErrSyntax), ("tabula/lex.faults", laid_tabula_lex_faults), ("tabula/val.faults", laid_tabula_val_faults), ("unicode/utf8.first", laid_unicode_utf8_first)], narrowed := true }
def SpillSmallUptoSaid : Prop := spillSmallUptoRow.holds Tryz.pinned (OpenSpec.upto spillSmallSpec)

/-- 'tabulalaw14.SpillCover', WHERE WHAT IT READS IS OF BULK AT MOST 1048576: true; the input reads as it did. -/
def spillCoverUptoRow : OpenClaim := { program := "ytphhepnldndbhaagreatdoor", sum := "a13d3e91f83ffc0a6c4c8ec06932f2f1d41c06622ae9b1451382e2c546b44f17", func := "tabula/tabulalaw14.SpillCover", spec := "spillCover", inPlace := ["internal/bytealg.IndexByteString", "internal/bytealg.IndexString", "internal/bytealg.CountString", "internal/abi.NoEscape", "internal/bytealg.MakeNoZero"], unfollowed := true, recurses := true, named := ["unicode/utf8.first", "unicode/utf8.acceptRanges", "tabula/val.faults", "internal/bytealg.MaxLen", "tabula/lex.faults", "strconv.ErrSyntax", "strconv.ErrRange", "internal/strconv.uint64pow10", "math/bits.deBruijn32tab", "math/bits.deBruijn64tab"], plainKeys := false, apart := false, laid := [("math/bits.deBruijn32tab", laid_math_bits_deBruijn32tab), ("math/bits.deBruijn64tab", laid_math_bits_deBruijn64tab), ("internal/strconv.uint64pow10", laid_internal_strconv_uint64pow10), ("unicode/utf8.acceptRanges", laid_unicode_utf8_acceptRanges), ("strconv.ErrRange", laid_strconv_ErrRange), ("strconv.ErrSyntax", laid_strconv_ErrSyntax), ("tabula/lex.faults", laid_tabula_lex_faults), ("tabula/val.faults", laid_tabula_val_faults), ("unicode/utf8.first", laid_unicode_utf8_first)], narrowed := true }
def SpillCoverUptoSaid : Prop := spillCoverUptoRow.holds Tryz.pinned (OpenSpec.upto spillCoverSpec)

/-- 'tabulalaw14.SpillBlocks', WHERE WHAT IT READS IS OF BULK AT MOST 1048576: true; the input reads as it did. -/
def spillBlocksUptoRow : OpenClaim := { program := "ytphhepnldndbhaagreatdoor", sum := "a13d3e91f83ffc0a6c4c8ec06932f2f1d41c06622ae9b1451382e2c546b44f17", func := "tabula/tabulalaw14.SpillBlocks", spec := "spillBlocks", inPlace := ["internal/bytealg.IndexByteString", "internal/bytealg.IndexString", "internal/bytealg.CountString", "internal/abi.NoEscape", "internal/bytealg.MakeNoZero", "slices.overlaps[tabula/api.Cell]"], unfollowed := true, recurses := true, named := ["unicode/utf8.first", "unicode/utf8.acceptRanges", "tabula/val.faults", "internal/bytealg.MaxLen", "tabula/lex.faults", "strconv.ErrSyntax", "strconv.ErrRange", "internal/strconv.uint64pow10", "math/bits.deBruijn32tab", "math/bits.deBruijn64tab"], plainKeys := false, apart := false, laid := [("math/bits.deBruijn32tab", laid_math_bits_deBruijn32tab), ("math/bits.deBruijn64tab", laid_math_bits_deBruijn64tab), ("internal/strconv.uint64pow10", laid_internal_strconv_uint64pow10), ("unicode/utf8.acceptRanges", laid_unicode_utf8_acceptRanges), ("strconv.ErrRange", laid_strconv_ErrRange), ("strconv.ErrSyntax", laid_strconv_ErrSyntax), ("tabula/lex.faults", laid_tabula_lex_faults), ("tabula/val.faults", laid_tabula_val_faults), ("unicode/utf8.first", laid_unicode_utf8_first)], narrowed := true }
def SpillBlocksUptoSaid : Prop := spillBlocksUptoRow.holds Tryz.pinned (OpenSpec.upto spillBlocksSpec)

end Rows
end Go.Proofs.YtphhepnldndbhaaGreatDoor
