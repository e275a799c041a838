/-
  NARROWER THAN 'FOR EVERY INPUT', by the rows' own cells (each row's printed sentence says how): Classes: laid · Levels: laid · Orders: laid · Turned: laid · Parts: laid · Safes: laid.
  DERIVED. THE GIVEN ROWS OF THIS SEAT. 6 by the template 'for every input the law returns true; each argument reads behind the call as it read before'; 0 by the template 'total and deterministic' (their statements: YtjibonedokhbhaaGreatDoorTotals.lean).
  GIVEN WITH THE SEED: the statements are not yours to turn. If you find one false, say at which input.
  Laid BY PROGRAM, IN A SANDBOX (cutbox-rows.mjs): the forced cells as the released guide's own fill.sh prints them over the translation 05ee295ca2ec27fd… (all of the seat's roots in one cut). By AI agents, Wed Nov 11 2026. No macro, syntax, notation, axiom, sorry.
-/
import Derived.Test.YtjibonedokhbhaaGreatDoorChecked
import GoSem.PinnedTables
import GoSem.Claim
import GoSem.ClaimJoined
import GoSem.ClaimMapViews
import Derived.JoinedTies
import Derived.KernelRfl
namespace Go.Proofs.YtjibonedokhbhaaGreatDoor
/- THE CELL 'sum', in the pinned program and in every row, IS THE sha256 OF THE DUMP (.gsa) THAT YtjibonedokhbhaaGreatDoorProg.lean LOADS. Nothing in Lean hashes anything: it is a label: what it is worth is what the hold of that sum in a sandbox is worth. -/
noncomputable def Tryz.pinned : Pinned := { name := "ytjibonedokhbhaagreatdoor", sum := "05ee295ca2ec27fde4c7d58adb0a8b2d2078f95f458a8f768bd1941c77ac95f0", checked := Tryz.checked }
namespace Rows
def none {H : Type} : Left H := { results := [], args := [] }

/- WHAT THE LISTED PACKAGE-LEVEL VARIABLES READ AS WHEN THE CALL BEGINS. Each datum BY PROGRAM (the guide's laid-datum.mjs) off the statement by which the dump's own 'gosem.cut.vars' lays the variable. In a bare row this is a premise. The card (YtjibonedokhbhaaGreatDoorCards.lean) ties it to the program's text. -/
def laid_bidiguard_parts_lineComment {H : Type} : DataW H := .agg [.lit (.int .u8 47), .lit (.int .u8 47)]
def laid_bidiguard_parts_blockBegins {H : Type} : DataW H := .agg [.lit (.int .u8 47), .lit (.int .u8 42)]
def laid_bidiguard_parts_blockEnds {H : Type} : DataW H := .agg [.lit (.int .u8 42), .lit (.int .u8 47)]
def laid_unicode_utf8_acceptRanges {H : Type} : DataW H := .agg [.agg [.lit (.int .u8 128), .lit (.int .u8 191)], .agg [.lit (.int .u8 160), .lit (.int .u8 191)], .agg [.lit (.int .u8 128), .lit (.int .u8 159)], .agg [.lit (.int .u8 144), .lit (.int .u8 191)], .agg [.lit (.int .u8 128), .lit (.int .u8 143)], .agg [.lit (.int .u8 0), .lit (.int .u8 0)], .agg [.lit (.int .u8 0), .lit (.int .u8 0)], .agg [.lit (.int .u8 0), .lit (.int .u8 0)], .agg [.lit (.int .u8 0), .lit (.int .u8 0)], .agg [.lit (.int .u8 0), .lit (.int .u8 0)], .agg [.lit (.int .u8 0), .lit (.int .u8 0)], .agg [.lit (.int .u8 0), .lit (.int .u8 0)], .agg [.lit (.int .u8 0), .lit (.int .u8 0)], .agg [.lit (.int .u8 0), .lit (.int .u8 0)], .agg [.lit (.int .u8 0), .lit (.int .u8 0)], .agg [.lit (.int .u8 0), .lit (.int .u8 0)]]
def laid_errors_errorType {H : Type} : DataW H := .iface "internal/reflectlite.rtype" (.agg [.ptr (.lit (.string [101, 114, 114, 111, 114]))])
def laid_bidiguard_bidi_bracketPairs {H : Type} : DataW H := .agg [.agg [.lit (.int .i32 40), .lit (.int .i32 41)], .agg [.lit (.int .i32 91), .lit (.int .i32 93)], .agg [.lit (.int .i32 123), .lit (.int .i32 125)], .agg [.lit (.int .i32 12296), .lit (.int .i32 12297)]]
def laid_bidiguard_bidi_spans {H : Type} : DataW H := .agg [.agg [.lit (.int .i32 1488), .lit (.int .i32 1514), .lit (.int .i64 1)], .agg [.lit (.int .i32 8207), .lit (.int .i32 8207), .lit (.int .i64 1)], .agg [.lit (.int .i32 1575), .lit (.int .i32 1610), .lit (.int .i64 2)], .agg [.lit (.int .i32 1564), .lit (.int .i32 1564), .lit (.int .i64 2)], .agg [.lit (.int .i32 48), .lit (.int .i32 57), .lit (.int .i64 3)], .agg [.lit (.int .i32 43), .lit (.int .i32 43), .lit (.int .i64 4)], .agg [.lit (.int .i32 45), .lit (.int .i32 45), .lit (.int .i64 4)], .agg [.lit (.int .i32 35), .lit (.int .i32 37), .lit (.int .i64 5)], .agg [.lit (.int .i32 8364), .lit (.int .i32 8364), .lit (.int .i64 5)], .agg [.lit (.int .i32 1632), .lit (.int .i32 1641), .lit (.int .i64 6)], .agg [.lit (.int .i32 44), .lit (.int .i32 44), .lit (.int .i64 7)], .agg [.lit (.int .i32 46), .lit (.int .i32 47), .lit (.int .i64 7)], .agg [.lit (.int .i32 58), .lit (.int .i32 58), .lit (.int .i64 7)], .agg [.lit (.int .i32 768), .lit (.int .i32 879), .lit (.int .i64 8)], .agg [.lit (.int .i32 1611), .lit (.int .i32 1618), .lit (.int .i64 8)], .agg [.lit (.int .i32 173), .lit (.int .i32 173), .lit (.int .i64 9)], .agg [.lit (.int .i32 8203), .lit (.int .i32 8203), .lit (.int .i64 9)], .agg [.lit (.int .i32 9), .lit (.int .i32 9), .lit (.int .i64 10)], .agg [.lit (.int .i32 32), .lit (.int .i32 32), .lit (.int .i64 11)], .agg [.lit (.int .i32 8195), .lit (.int .i32 8195), .lit (.int .i64 11)], .agg [.lit (.int .i32 33), .lit (.int .i32 34), .lit (.int .i64 12)], .agg [.lit (.int .i32 38), .lit (.int .i32 42), .lit (.int .i64 12)], .agg [.lit (.int .i32 59), .lit (.int .i32 64), .lit (.int .i64 12)], .agg [.lit (.int .i32 91), .lit (.int .i32 96), .lit (.int .i64 12)], .agg [.lit (.int .i32 123), .lit (.int .i32 126), .lit (.int .i64 12)], .agg [.lit (.int .i32 9001), .lit (.int .i32 9002), .lit (.int .i64 12)], .agg [.lit (.int .i32 12296), .lit (.int .i32 12297), .lit (.int .i64 12)], .agg [.lit (.int .i32 8234), .lit (.int .i32 8234), .lit (.int .i64 13)], .agg [.lit (.int .i32 8235), .lit (.int .i32 8235), .lit (.int .i64 14)], .agg [.lit (.int .i32 8237), .lit (.int .i32 8237), .lit (.int .i64 15)], .agg [.lit (.int .i32 8238), .lit (.int .i32 8238), .lit (.int .i64 16)], .agg [.lit (.int .i32 8236), .lit (.int .i32 8236), .lit (.int .i64 17)], .agg [.lit (.int .i32 8294), .lit (.int .i32 8294), .lit (.int .i64 18)], .agg [.lit (.int .i32 8295), .lit (.int .i32 8295), .lit (.int .i64 19)], .agg [.lit (.int .i32 8296), .lit (.int .i32 8296), .lit (.int .i64 20)], .agg [.lit (.int .i32 8297), .lit (.int .i32 8297), .lit (.int .i64 21)]]
def laid_bidiguard_guard_ErrLong {H : Type} : DataW H := .iface "*errors.errorString" (.ptr (.agg [.lit (.string [97, 32, 116, 101, 120, 116, 32, 116, 104, 97, 116, 32, 105, 115, 32, 116, 111, 111, 32, 108, 111, 110, 103])]))
def laid_bidiguard_guard_ErrText {H : Type} : DataW H := .iface "*errors.errorString" (.ptr (.agg [.lit (.string [110, 111, 32, 118, 97, 108, 105, 100, 32, 116, 101, 120, 116])]))
def laid_bidiguard_guard_ErrCode {H : Type} : DataW H := .iface "*errors.errorString" (.ptr (.agg [.lit (.string [97, 32, 108, 101, 116, 116, 101, 114, 32, 105, 110, 32, 99, 111, 100, 101, 32, 116, 104, 97, 116, 32, 116, 117, 114, 110, 115, 32, 116, 104, 101, 32, 108, 105, 110, 101])]))
/-- One of Go's own tables, pinned by name: the form's constant. -/
def laid_unicode_utf8_first : DataW Unit := Go.Pinned.utf8First

/-- 'bidiguardlaw.Classes': WHATEVER THE INPUT: true; the input reads as it did. -/
def classesSpec : ChangeSpec := { name := "classes", fn := fun _ => fun
  | [d] => { results := [.lit (.bool true)], args := [d] }
  | _ => none }
def classesRow : OpenClaim := { program := "ytjibonedokhbhaagreatdoor", sum := "05ee295ca2ec27fde4c7d58adb0a8b2d2078f95f458a8f768bd1941c77ac95f0", func := "bidiguard/bidiguardlaw.Classes", spec := "classes", inPlace := ["internal/bytealg.IndexByteString", "internal/bytealg.IndexString", "internal/reflectlite.ValueOf", "(internal/reflectlite.Value).Type", "(internal/reflectlite.Value).IsNil", "internal/reflectlite.TypeOf", "(internal/reflectlite.Value).Elem", "(internal/reflectlite.Value).Set", "internal/bytealg.CountString"], unfollowed := true, recurses := true, named := ["bidiguard/guard.ErrLong", "bidiguard/guard.ErrText", "unicode/utf8.first", "unicode/utf8.acceptRanges", "internal/bytealg.MaxLen", "bidiguard/bidi.spans", "bidiguard/guard.ErrCode", "errors.errorType", "bidiguard/bidi.bracketPairs", "bidiguard/parts.lineComment", "bidiguard/parts.blockBegins", "bidiguard/parts.blockEnds"], plainKeys := false, apart := false, laid := [("bidiguard/parts.lineComment", laid_bidiguard_parts_lineComment), ("bidiguard/parts.blockBegins", laid_bidiguard_parts_blockBegins), ("bidiguard/parts.blockEnds", laid_bidiguard_parts_blockEnds), ("unicode/utf8.acceptRanges", laid_unicode_utf8_acceptRanges), ("errors.errorType", laid_errors_errorType), ("bidiguard/bidi.bracketPairs", laid_bidiguard_bidi_bracketPairs), ("bidiguard/bidi.spans", laid_bidiguard_bidi_spans), ("bidiguard/guard.ErrLong", laid_bidiguard_guard_ErrLong), ("bidiguard/guard.ErrText", laid_bidiguard_guard_ErrText), ("bidiguard/guard.ErrCode", laid_bidiguard_guard_ErrCode), ("unicode/utf8.first", laid_unicode_utf8_first)] }
def ClassesSaid : Prop := classesRow.holds Tryz.pinned (OpenSpec.ofChange classesSpec)

/-- ITS FALSE NEIGHBOUR: 'it returns false'. Refute it at one input. -/
def classesWrong : ChangeSpec := { name := "classes", fn := fun _ => fun
  | [d] => { results := [.lit (.bool false)], args := [d] }
  | _ => none }
def ClassesWrongFalsely : Prop := classesRow.holds Tryz.pinned (OpenSpec.ofChange classesWrong)

/-- 'bidiguardlaw.Levels': WHATEVER THE INPUT: true; the input reads as it did. -/
def levelsSpec : ChangeSpec := { name := "levels", fn := fun _ => fun
  | [d] => { results := [.lit (.bool true)], args := [d] }
  | _ => none }
def levelsRow : OpenClaim := { program := "ytjibonedokhbhaagreatdoor", sum := "05ee295ca2ec27fde4c7d58adb0a8b2d2078f95f458a8f768bd1941c77ac95f0", func := "bidiguard/bidiguardlaw.Levels", spec := "levels", inPlace := ["internal/bytealg.IndexByteString", "internal/bytealg.IndexString", "internal/reflectlite.ValueOf", "(internal/reflectlite.Value).Type", "(internal/reflectlite.Value).IsNil", "internal/reflectlite.TypeOf", "(internal/reflectlite.Value).Elem", "(internal/reflectlite.Value).Set", "internal/bytealg.CountString"], unfollowed := true, recurses := true, named := ["bidiguard/guard.ErrLong", "bidiguard/guard.ErrText", "unicode/utf8.first", "unicode/utf8.acceptRanges", "internal/bytealg.MaxLen", "bidiguard/bidi.spans", "bidiguard/guard.ErrCode", "errors.errorType", "bidiguard/bidi.bracketPairs", "bidiguard/parts.lineComment", "bidiguard/parts.blockBegins", "bidiguard/parts.blockEnds"], plainKeys := false, apart := false, laid := [("bidiguard/parts.lineComment", laid_bidiguard_parts_lineComment), ("bidiguard/parts.blockBegins", laid_bidiguard_parts_blockBegins), ("bidiguard/parts.blockEnds", laid_bidiguard_parts_blockEnds), ("unicode/utf8.acceptRanges", laid_unicode_utf8_acceptRanges), ("errors.errorType", laid_errors_errorType), ("bidiguard/bidi.bracketPairs", laid_bidiguard_bidi_bracketPairs), ("bidiguard/bidi.spans", laid_bidiguard_bidi_spans), ("bidiguard/guard.ErrLong", laid_bidiguard_guard_ErrLong), ("bidiguard/guard.ErrText", laid_bidiguard_guard_ErrText), ("bidiguard/guard.ErrCode", laid_bidiguard_guard_ErrCode), ("unicode/utf8.first", laid_unicode_utf8_first)] }
def LevelsSaid : Prop := levelsRow.holds Tryz.pinned (OpenSpec.ofChange levelsSpec)

/-- ITS FALSE NEIGHBOUR: 'it returns false'. Refute it at one input. -/
def levelsWrong : ChangeSpec := { name := "levels", fn := fun _ => fun
  | [d] => { results := [.lit (.bool false)], args := [d] }
  | _ => none }
def LevelsWrongFalsely : Prop := levelsRow.holds Tryz.pinned (OpenSpec.ofChange levelsWrong)

/-- 'bidiguardlaw.Orders': WHATEVER THE INPUT: true; the input reads as it did. -/
def ordersSpec : ChangeSpec := { name := "orders", fn := fun _ => fun
  | [d] => { results := [.lit (.bool true)], args := [d] }
  | _ => none }
def ordersRow : OpenClaim := { program := "ytjibonedokhbhaagreatdoor", sum := "05ee295ca2ec27fde4c7d58adb0a8b2d2078f95f458a8f768bd1941c77ac95f0", func := "bidiguard/bidiguardlaw.Orders", spec := "orders", inPlace := ["internal/bytealg.IndexByteString", "internal/bytealg.IndexString", "internal/reflectlite.ValueOf", "(internal/reflectlite.Value).Type", "(internal/reflectlite.Value).IsNil", "internal/reflectlite.TypeOf", "(internal/reflectlite.Value).Elem", "(internal/reflectlite.Value).Set", "internal/bytealg.CountString"], unfollowed := true, recurses := true, named := ["bidiguard/guard.ErrLong", "bidiguard/guard.ErrText", "unicode/utf8.first", "unicode/utf8.acceptRanges", "internal/bytealg.MaxLen", "bidiguard/bidi.spans", "bidiguard/guard.ErrCode", "errors.errorType", "bidiguard/bidi.bracketPairs", "bidiguard/parts.lineComment", "bidiguard/parts.blockBegins", "bidiguard/parts.blockEnds"], plainKeys := false, apart := false, laid := [("bidiguard/parts.lineComment", laid_bidiguard_parts_lineComment), ("bidiguard/parts.blockBegins", laid_bidiguard_parts_blockBegins), ("bidiguard/parts.blockEnds", laid_bidiguard_parts_blockEnds), ("unicode/utf8.acceptRanges", laid_unicode_utf8_acceptRanges), ("errors.errorType", laid_errors_errorType), ("bidiguard/bidi.bracketPairs", laid_bidiguard_bidi_bracketPairs), ("bidiguard/bidi.spans", laid_bidiguard_bidi_spans), ("bidiguard/guard.ErrLong", laid_bidiguard_guard_ErrLong), ("bidiguard/guard.ErrText", laid_bidiguard_guard_ErrText), ("bidiguard/guard.ErrCode", laid_bidiguard_guard_ErrCode), ("unicode/utf8.first", laid_unicode_utf8_first)] }
def OrdersSaid : Prop := ordersRow.holds Tryz.pinned (OpenSpec.ofChange ordersSpec)

/-- ITS FALSE NEIGHBOUR: 'it returns false'. Refute it at one input. -/
def ordersWrong : ChangeSpec := { name := "orders", fn := fun _ => fun
  | [d] => { results := [.lit (.bool false)], args := [d] }
  | _ => none }
def OrdersWrongFalsely : Prop := ordersRow.holds Tryz.pinned (OpenSpec.ofChange ordersWrong)

/-- 'bidiguardlaw.Turned': WHATEVER THE INPUT: true; the input reads as it did. -/
def turnedSpec : ChangeSpec := { name := "turned", fn := fun _ => fun
  | [d] => { results := [.lit (.bool true)], args := [d] }
  | _ => none }
def turnedRow : OpenClaim := { program := "ytjibonedokhbhaagreatdoor", sum := "05ee295ca2ec27fde4c7d58adb0a8b2d2078f95f458a8f768bd1941c77ac95f0", func := "bidiguard/bidiguardlaw.Turned", spec := "turned", inPlace := ["internal/bytealg.IndexByteString", "internal/bytealg.IndexString", "internal/reflectlite.ValueOf", "(internal/reflectlite.Value).Type", "(internal/reflectlite.Value).IsNil", "internal/reflectlite.TypeOf", "(internal/reflectlite.Value).Elem", "(internal/reflectlite.Value).Set"], unfollowed := true, recurses := true, named := ["bidiguard/guard.ErrLong", "bidiguard/guard.ErrText", "unicode/utf8.first", "unicode/utf8.acceptRanges", "internal/bytealg.MaxLen", "bidiguard/bidi.spans", "bidiguard/bidi.bracketPairs", "bidiguard/guard.ErrCode", "errors.errorType"], plainKeys := false, apart := false, laid := [("unicode/utf8.acceptRanges", laid_unicode_utf8_acceptRanges), ("errors.errorType", laid_errors_errorType), ("bidiguard/bidi.bracketPairs", laid_bidiguard_bidi_bracketPairs), ("bidiguard/bidi.spans", laid_bidiguard_bidi_spans), ("bidiguard/guard.ErrLong", laid_bidiguard_guard_ErrLong), ("bidiguard/guard.ErrText", laid_bidiguard_guard_ErrText), ("bidiguard/guard.ErrCode", laid_bidiguard_guard_ErrCode), ("unicode/utf8.first", laid_unicode_utf8_first)] }
def TurnedSaid : Prop := turnedRow.holds Tryz.pinned (OpenSpec.ofChange turnedSpec)

/-- ITS FALSE NEIGHBOUR: 'it returns false'. Refute it at one input. -/
def turnedWrong : ChangeSpec := { name := "turned", fn := fun _ => fun
  | [d] => { results := [.lit (.bool false)], args := [d] }
  | _ => none }
def TurnedWrongFalsely : Prop := turnedRow.holds Tryz.pinned (OpenSpec.ofChange turnedWrong)

/-- 'bidiguardlaw.Parts': WHATEVER THE INPUT: true; the input reads as it did. -/
def partsSpec : ChangeSpec := { name := "parts", fn := fun _ => fun
  | [d] => { results := [.lit (.bool true)], args := [d] }
  | _ => none }
def partsRow : OpenClaim := { program := "ytjibonedokhbhaagreatdoor", sum := "05ee295ca2ec27fde4c7d58adb0a8b2d2078f95f458a8f768bd1941c77ac95f0", func := "bidiguard/bidiguardlaw.Parts", spec := "parts", inPlace := ["internal/bytealg.IndexByteString", "internal/bytealg.IndexString", "internal/reflectlite.ValueOf", "(internal/reflectlite.Value).Type", "(internal/reflectlite.Value).IsNil", "internal/reflectlite.TypeOf", "(internal/reflectlite.Value).Elem", "(internal/reflectlite.Value).Set", "internal/bytealg.CountString"], unfollowed := true, recurses := true, named := ["bidiguard/guard.ErrLong", "bidiguard/guard.ErrText", "unicode/utf8.first", "unicode/utf8.acceptRanges", "internal/bytealg.MaxLen", "bidiguard/bidi.spans", "bidiguard/guard.ErrCode", "errors.errorType", "bidiguard/bidi.bracketPairs", "bidiguard/parts.lineComment", "bidiguard/parts.blockBegins", "bidiguard/parts.blockEnds"], plainKeys := false, apart := false, laid := [("bidiguard/parts.lineComment", laid_bidiguard_parts_lineComment), ("bidiguard/parts.blockBegins", laid_bidiguard_parts_blockBegins), ("bidiguard/parts.blockEnds", laid_bidiguard_parts_blockEnds), ("unicode/utf8.acceptRanges", laid_unicode_utf8_acceptRanges), ("errors.errorType", laid_errors_errorType), ("bidiguard/bidi.bracketPairs", laid_bidiguard_bidi_bracketPairs), ("bidiguard/bidi.spans", laid_bidiguard_bidi_spans), ("bidiguard/guard.ErrLong", laid_bidiguard_guard_ErrLong), ("bidiguard/guard.ErrText", laid_bidiguard_guard_ErrText), ("bidiguard/guard.ErrCode", laid_bidiguard_guard_ErrCode), ("unicode/utf8.first", laid_unicode_utf8_first)] }
def PartsSaid : Prop := partsRow.holds Tryz.pinned (OpenSpec.ofChange partsSpec)

/-- ITS FALSE NEIGHBOUR: 'it returns false'. Refute it at one input. -/
def partsWrong : ChangeSpec := { name := "parts", fn := fun _ => fun
  | [d] => { results := [.lit (.bool false)], args := [d] }
  | _ => none }
def PartsWrongFalsely : Prop := partsRow.holds Tryz.pinned (OpenSpec.ofChange partsWrong)

/-- 'bidiguardlaw.Safes': WHATEVER THE INPUT: true; the input reads as it did. -/
def safesSpec : ChangeSpec := { name := "safes", fn := fun _ => fun
  | [d] => { results := [.lit (.bool true)], args := [d] }
  | _ => none }
def safesRow : OpenClaim := { program := "ytjibonedokhbhaagreatdoor", sum := "05ee295ca2ec27fde4c7d58adb0a8b2d2078f95f458a8f768bd1941c77ac95f0", func := "bidiguard/bidiguardlaw.Safes", spec := "safes", inPlace := ["internal/bytealg.IndexByteString", "internal/bytealg.IndexString", "internal/reflectlite.ValueOf", "(internal/reflectlite.Value).Type", "(internal/reflectlite.Value).IsNil", "internal/reflectlite.TypeOf", "(internal/reflectlite.Value).Elem", "(internal/reflectlite.Value).Set", "internal/bytealg.CountString"], unfollowed := true, recurses := true, named := ["bidiguard/guard.ErrLong", "bidiguard/guard.ErrText", "unicode/utf8.first", "unicode/utf8.acceptRanges", "internal/bytealg.MaxLen", "bidiguard/bidi.spans", "bidiguard/guard.ErrCode", "errors.errorType", "bidiguard/bidi.bracketPairs", "bidiguard/parts.lineComment", "bidiguard/parts.blockBegins", "bidiguard/parts.blockEnds"], plainKeys := false, apart := false, laid := [("bidiguard/parts.lineComment", laid_bidiguard_parts_lineComment), ("bidiguard/parts.blockBegins", laid_bidiguard_parts_blockBegins), ("bidiguard/parts.blockEnds", laid_bidiguard_parts_blockEnds), ("unicode/utf8.acceptRanges", laid_unicode_utf8_acceptRanges), ("errors.errorType", laid_errors_errorType), ("bidiguard/bidi.bracketPairs", laid_bidiguard_bidi_bracketPairs), ("bidiguard/bidi.spans", laid_bidiguard_bidi_spans), ("bidiguard/guard.ErrLong", laid_bidiguard_guard_ErrLong), ("bidiguard/guard.ErrText", laid_bidiguard_guard_ErrText), ("bidiguard/guard.ErrCode", laid_bidiguard_guard_ErrCode), ("unicode/utf8.first", laid_unicode_utf8_first)] }
def SafesSaid : Prop := safesRow.holds Tryz.pinned (OpenSpec.ofChange safesSpec)

/-- ITS FALSE NEIGHBOUR: 'it returns false'. Refute it at one input. -/
def safesWrong : ChangeSpec := { name := "safes", fn := fun _ => fun
  | [d] => { results := [.lit (.bool false)], args := [d] }
  | _ => none }
def SafesWrongFalsely : Prop := safesRow.holds Tryz.pinned (OpenSpec.ofChange safesWrong)

/- THE SECOND FORM. 'bulk': how many values and letters a reading holds, each counted each time it is reached (what is shared counts as often as it is met; a slice's spare places count too). A statement '..UptoSaid' is the law's where the arguments, and the package variables that the reading takes, are together of bulk at most 1048576: NARROWER than '..Said'. Prove '..Said' where nothing that the law and all that it calls make is longer than what came in: it says more and counts as full. Else prove '..UptoSaid'. A law counts once. -/
mutual
def uptoBulk {H : Type} : DataW H → Nat
  | .lit (.string bytes) => bytes.length + 1
  | .lit _ => 1
  | .nil => 1
  | .ptr d => uptoBulk d + 1
  | .slice elems spare => uptoBulkAll elems + uptoBulkAll spare + 1
  | .agg parts => uptoBulkAll parts + 1
  | .iface _ d => uptoBulk d + 1
  | .map entries => uptoBulkEntries entries + 1
  | .held _ => 1
def uptoBulkAll {H : Type} : List (DataW H) → Nat
  | [] => 0
  | d :: r => uptoBulk d + uptoBulkAll r
def uptoBulkEntries {H : Type} : List (Lit × DataW H) → Nat
  | [] => 0
  | x :: r => uptoBulkEntry x + uptoBulkEntries r
def uptoBulkEntry {H : Type} : Lit × DataW H → Nat
  | (.string bytes, d) => bytes.length + uptoBulk d + 1
  | (_, d) => uptoBulk d + 1
 end
def uptoSmall : (H : Type) → List (DataW H) → Bool := fun _ ds => decide (uptoBulkAll ds ≤ 1048576)
def OpenSpec.upto (s : _root_.Go.ChangeSpec) : _root_.Go.OpenSpec := { _root_.Go.OpenSpec.ofChange s with cond := some uptoSmall }

/-- 'bidiguardlaw.Classes', WHERE WHAT IT READS IS OF BULK AT MOST 1048576: true; the input reads as it did. -/
def classesUptoRow : OpenClaim := { program := "ytjibonedokhbhaagreatdoor", sum := "05ee295ca2ec27fde4c7d58adb0a8b2d2078f95f458a8f768bd1941c77ac95f0", func := "bidiguard/bidiguardlaw.Classes", spec := "classes", inPlace := ["internal/bytealg.IndexByteString", "internal/bytealg.IndexString", "internal/reflectlite.ValueOf", "(internal/reflectlite.Value).Type", "(internal/reflectlite.Value).IsNil", "internal/reflectlite.TypeOf", "(internal/reflectlite.Value).Elem", "(internal/reflectlite.Value).Set", "internal/bytealg.CountString"], unfollowed := true, recurses := true, named := ["bidiguard/guard.ErrLong", "bidiguard/guard.ErrText", "unicode/utf8.first", "unicode/utf8.acceptRanges", "internal/bytealg.MaxLen", "bidiguard/bidi.spans", "bidiguard/guard.ErrCode", "errors.errorType", "bidiguard/bidi.bracketPairs", "bidiguard/parts.lineComment", "bidiguard/parts.blockBegins", "bidiguard/parts.blockEnds"], plainKeys := false, apart := false, laid := [("bidiguard/parts.lineComment", laid_bidiguard_parts_lineComment), ("bidiguard/parts.blockBegins", laid_bidiguard_parts_blockBegins), ("bidiguard/parts.blockEnds", laid_bidiguard_parts_blockEnds), ("unicode/utf8.acceptRanges", laid_unicode_utf8_acceptRanges), ("errors.errorType", laid_errors_errorType), ("bidiguard/bidi.bracketPairs", laid_bidiguard_bidi_bracketPairs), ("bidiguard/bidi.spans", laid_bidiguard_bidi_spans), ("bidiguard/guard.ErrLong", laid_bidiguard_guard_ErrLong), ("bidiguard/guard.ErrText", laid_bidiguard_guard_ErrText), ("bidiguard/guard.ErrCode", laid_bidiguard_guard_ErrCode), ("unicode/utf8.first", laid_unicode_utf8_first)], narrowed := true }
def ClassesUptoSaid : Prop := classesUptoRow.holds Tryz.pinned (OpenSpec.upto classesSpec)

/-- 'bidiguardlaw.Levels', WHERE WHAT IT READS IS OF BULK AT MOST 1048576: true; the input reads as it did. -/
def levelsUptoRow : OpenClaim := { program := "ytjibonedokhbhaagreatdoor", sum := "05ee295ca2ec27fde4c7d58adb0a8b2d2078f95f458a8f768bd1941c77ac95f0", func := "bidiguard/bidiguardlaw.Levels", spec := "levels", inPlace := ["internal/bytealg.IndexByteString", "internal/bytealg.IndexString", "internal/reflectlite.ValueOf", "(internal/reflectlite.Value).Type", "(internal/reflectlite.Value).IsNil", "internal/reflectlite.TypeOf", "(internal/reflectlite.Value).Elem", "(internal/reflectlite.Value).Set", "internal/bytealg.CountString"], unfollowed := true, recurses := true, named := ["bidiguard/guard.ErrLong", "bidiguard/guard.ErrText", "unicode/utf8.first", "unicode/utf8.acceptRanges", "internal/bytealg.MaxLen", "bidiguard/bidi.spans", "bidiguard/guard.ErrCode", "errors.errorType", "bidiguard/bidi.bracketPairs", "bidiguard/parts.lineComment", "bidiguard/parts.blockBegins", "bidiguard/parts.blockEnds"], plainKeys := false, apart := false, laid := [("bidiguard/parts.lineComment", laid_bidiguard_parts_lineComment), ("bidiguard/parts.blockBegins", laid_bidiguard_parts_blockBegins), ("bidiguard/parts.blockEnds", laid_bidiguard_parts_blockEnds), ("unicode/utf8.acceptRanges", laid_unicode_utf8_acceptRanges), ("errors.errorType", laid_errors_errorType), ("bidiguard/bidi.bracketPairs", laid_bidiguard_bidi_bracketPairs), ("bidiguard/bidi.spans", laid_bidiguard_bidi_spans), ("bidiguard/guard.ErrLong", laid_bidiguard_guard_ErrLong), ("bidiguard/guard.ErrText", laid_bidiguard_guard_ErrText), ("bidiguard/guard.ErrCode", laid_bidiguard_guard_ErrCode), ("unicode/utf8.first", laid_unicode_utf8_first)], narrowed := true }
def LevelsUptoSaid : Prop := levelsUptoRow.holds Tryz.pinned (OpenSpec.upto levelsSpec)

/-- 'bidiguardlaw.Orders', WHERE WHAT IT READS IS OF BULK AT MOST 1048576: true; the input reads as it did. -/
def ordersUptoRow : OpenClaim := { program := "ytjibonedokhbhaagreatdoor", sum := "05ee295ca2ec27fde4c7d58adb0a8b2d2078f95f458a8f768bd1941c77ac95f0", func := "bidiguard/bidiguardlaw.Orders", spec := "orders", inPlace := ["internal/bytealg.IndexByteString", "internal/bytealg.IndexString", "internal/reflectlite.ValueOf", "(internal/reflectlite.Value).Type", "(internal/reflectlite.Value).IsNil", "internal/reflectlite.TypeOf", "(internal/reflectlite.Value).Elem", "(internal/reflectlite.Value).Set", "internal/bytealg.CountString"], unfollowed := true, recurses := true, named := ["bidiguard/guard.ErrLong", "bidiguard/guard.ErrText", "unicode/utf8.first", "unicode/utf8.acceptRanges", "internal/bytealg.MaxLen", "bidiguard/bidi.spans", "bidiguard/guard.ErrCode", "errors.errorType", "bidiguard/bidi.bracketPairs", "bidiguard/parts.lineComment", "bidiguard/parts.blockBegins", "bidiguard/parts.blockEnds"], plainKeys := false, apart := false, laid := [("bidiguard/parts.lineComment", laid_bidiguard_parts_lineComment), ("bidiguard/parts.blockBegins", laid_bidiguard_parts_blockBegins), ("bidiguard/parts.blockEnds", laid_bidiguard_parts_blockEnds), ("unicode/utf8.acceptRanges", laid_unicode_utf8_acceptRanges), ("errors.errorType", laid_errors_errorType), ("bidiguard/bidi.bracketPairs", laid_bidiguard_bidi_bracketPairs), ("bidiguard/bidi.spans", laid_bidiguard_bidi_spans), ("bidiguard/guard.ErrLong", laid_bidiguard_guard_ErrLong), ("bidiguard/guard.ErrText", laid_bidiguard_guard_ErrText), ("bidiguard/guard.ErrCode", laid_bidiguard_guard_ErrCode), ("unicode/utf8.first", laid_unicode_utf8_first)], narrowed := true }
def OrdersUptoSaid : Prop := ordersUptoRow.holds Tryz.pinned (OpenSpec.upto ordersSpec)

/-- 'bidiguardlaw.Turned', WHERE WHAT IT READS IS OF BULK AT MOST 1048576: true; the input reads as it did. -/
def turnedUptoRow : OpenClaim := { program := "ytjibonedokhbhaagreatdoor", sum := "05ee295ca2ec27fde4c7d58adb0a8b2d2078f95f458a8f768bd1941c77ac95f0", func := "bidiguard/bidiguardlaw.Turned", spec := "turned", inPlace := ["internal/bytealg.IndexByteString", "internal/bytealg.IndexString", "internal/reflectlite.ValueOf", "(internal/reflectlite.Value).Type", "(internal/reflectlite.Value).IsNil", "internal/reflectlite.TypeOf", "(internal/reflectlite.Value).Elem", "(internal/reflectlite.Value).Set"], unfollowed := true, recurses := true, named := ["bidiguard/guard.ErrLong", "bidiguard/guard.ErrText", "unicode/utf8.first", "unicode/utf8.acceptRanges", "internal/bytealg.MaxLen", "bidiguard/bidi.spans", "bidiguard/bidi.bracketPairs", "bidiguard/guard.ErrCode", "errors.errorType"], plainKeys := false, apart := false, laid := [("unicode/utf8.acceptRanges", laid_unicode_utf8_acceptRanges), ("errors.errorType", laid_errors_errorType), ("bidiguard/bidi.bracketPairs", laid_bidiguard_bidi_bracketPairs), ("bidiguard/bidi.spans", laid_bidiguard_bidi_spans), ("bidiguard/guard.ErrLong", laid_bidiguard_guard_ErrLong), ("bidiguard/guard.ErrText", laid_bidiguard_guard_ErrText), ("bidiguard/guard.ErrCode", laid_bidiguard_guard_ErrCode), ("unicode/utf8.first", laid_unicode_utf8_first)], narrowed := true }
def TurnedUptoSaid : Prop := turnedUptoRow.holds Tryz.pinned (OpenSpec.upto turnedSpec)

/-- 'bidiguardlaw.Parts', WHERE WHAT IT READS IS OF BULK AT MOST 1048576: true; the input reads as it did. -/
def partsUptoRow : OpenClaim := { program := "ytjibonedokhbhaagreatdoor", sum := "05ee295ca2ec27fde4c7d58adb0a8b2d2078f95f458a8f768bd1941c77ac95f0", func := "bidiguard/bidiguardlaw.Parts", spec := "parts", inPlace := ["internal/bytealg.IndexByteString", "internal/bytealg.IndexString", "internal/reflectlite.ValueOf", "(internal/reflectlite.Value).Type", "(internal/reflectlite.Value).IsNil", "internal/reflectlite.TypeOf", "(internal/reflectlite.Value).Elem", "(internal/reflectlite.Value).Set", "internal/bytealg.CountString"], unfollowed := true, recurses := true, named := ["bidiguard/guard.ErrLong", "bidiguard/guard.ErrText", "unicode/utf8.first", "unicode/utf8.acceptRanges", "internal/bytealg.MaxLen", "bidiguard/bidi.spans", "bidiguard/guard.ErrCode", "errors.errorType", "bidiguard/bidi.bracketPairs", "bidiguard/parts.lineComment", "bidiguard/parts.blockBegins", "bidiguard/parts.blockEnds"], plainKeys := false, apart := false, laid := [("bidiguard/parts.lineComment", laid_bidiguard_parts_lineComment), ("bidiguard/parts.blockBegins", laid_bidiguard_parts_blockBegins), ("bidiguard/parts.blockEnds", laid_bidiguard_parts_blockEnds), ("unicode/utf8.acceptRanges", laid_unicode_utf8_acceptRanges), ("errors.errorType", laid_errors_errorType), ("bidiguard/bidi.bracketPairs", laid_bidiguard_bidi_bracketPairs), ("bidiguard/bidi.spans", laid_bidiguard_bidi_spans), ("bidiguard/guard.ErrLong", laid_bidiguard_guard_ErrLong), ("bidiguard/guard.ErrText", laid_bidiguard_guard_ErrText), ("bidiguard/guard.ErrCode", laid_bidiguard_guard_ErrCode), ("unicode/utf8.first", laid_unicode_utf8_first)], narrowed := true }
def PartsUptoSaid : Prop := partsUptoRow.holds Tryz.pinned (OpenSpec.upto partsSpec)

/-- 'bidiguardlaw.Safes', WHERE WHAT IT READS IS OF BULK AT MOST 1048576: true; the input reads as it did. -/
def safesUptoRow : OpenClaim := { program := "ytjibonedokhbhaagreatdoor", sum := "05ee295ca2ec27fde4c7d58adb0a8b2d2078f95f458a8f768bd1941c77ac95f0", func := "bidiguard/bidiguardlaw.Safes", spec := "safes", inPlace := ["internal/bytealg.IndexByteString", "internal/bytealg.IndexString", "internal/reflectlite.ValueOf", "(internal/reflectlite.Value).Type", "(internal/reflectlite.Value).IsNil", "internal/reflectlite.TypeOf", "(internal/reflectlite.Value).Elem", "(internal/reflectlite.Value).Set", "internal/bytealg.CountString"], unfollowed := true, recurses := true, named := ["bidiguard/guard.ErrLong", "bidiguard/guard.ErrText", "unicode/utf8.first", "unicode/utf8.acceptRanges", "internal/bytealg.MaxLen", "bidiguard/bidi.spans", "bidiguard/guard.ErrCode", "errors.errorType", "bidiguard/bidi.bracketPairs", "bidiguard/parts.lineComment", "bidiguard/parts.blockBegins", "bidiguard/parts.blockEnds"], plainKeys := false, apart := false, laid := [("bidiguard/parts.lineComment", laid_bidiguard_parts_lineComment), ("bidiguard/parts.blockBegins", laid_bidiguard_parts_blockBegins), ("bidiguard/parts.blockEnds", laid_bidiguard_parts_blockEnds), ("unicode/utf8.acceptRanges", laid_unicode_utf8_acceptRanges), ("errors.errorType", laid_errors_errorType), ("bidiguard/bidi.bracketPairs", laid_bidiguard_bidi_bracketPairs), ("bidiguard/bidi.spans", laid_bidiguard_bidi_spans), ("bidiguard/guard.ErrLong", laid_bidiguard_guard_ErrLong), ("bidiguard/guard.ErrText", laid_bidiguard_guard_ErrText), ("bidiguard/guard.ErrCode", laid_bidiguard_guard_ErrCode), ("unicode/utf8.first", laid_unicode_utf8_first)], narrowed := true }
def SafesUptoSaid : Prop := safesUptoRow.holds Tryz.pinned (OpenSpec.upto safesSpec)

end Rows
end Go.Proofs.YtjibonedokhbhaaGreatDoor
