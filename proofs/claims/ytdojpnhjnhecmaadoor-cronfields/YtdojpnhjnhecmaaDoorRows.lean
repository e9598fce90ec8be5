/-
  NARROWER THAN 'FOR EVERY INPUT', by the rows' own cells (each row's printed sentence says how): CronTexts: laid · CronFinds: laid · CronNext: laid · CronFields: laid · CronDays: laid · CronEvery: laid.
  DERIVED. THE GIVEN ROWS OF THIS SEAT. 6 by the template 'for every input the law returns true; each argument reads behind the call as it read before'; 0 by the template 'total and deterministic' (their statements: YtdojpnhjnhecmaaDoorTotals.lean).
  GIVEN WITH THE SEED: the statements are not yours to turn. If you find one false, say at which input.
  Laid BY PROGRAM, IN A SANDBOX (cutbox-rows.mjs): the forced cells as the released guide's own fill.sh prints them over the translation 9a17964022c39dd9… (all of the seat's roots in one cut). By AI agents, Wed Nov 11 2026. No macro, syntax, notation, axiom, sorry.
-/
import Derived.Test.YtdojpnhjnhecmaaDoorChecked
import GoSem.Claim
import GoSem.ClaimJoined
import GoSem.ClaimMapViews
import Derived.JoinedTies
import Derived.KernelRfl
namespace Go.Proofs.YtdojpnhjnhecmaaDoor
/- THE CELL 'sum', in the pinned program and in every row, IS THE sha256 OF THE DUMP (.gsa) THAT YtdojpnhjnhecmaaDoorProg.lean LOADS. Nothing in Lean hashes anything: it is a label: what it is worth is what the hold of that sum in a sandbox is worth. -/
noncomputable def Tryd.pinned : Pinned := { name := "ytdojpnhjnhecmaadoor", sum := "9a17964022c39dd9960eed1b1a5928efdd8190559a53d873ce0905cb64906647", checked := Tryd.checked }
namespace Rows
def none {H : Type} : Left H := { results := [], args := [] }

/- WHAT THE LISTED PACKAGE-LEVEL VARIABLES READ AS WHEN THE CALL BEGINS. Each datum BY PROGRAM (the guide's laid-datum.mjs) off the statement by which the dump's own 'gosem.cut.vars' lays the variable. In a bare row this is a premise. The card (YtdojpnhjnhecmaaDoorCards.lean) ties it to the program's text. -/
def laid_horologe_cal_monthDays {H : Type} : DataW H := .agg [.lit (.int .i64 31), .lit (.int .i64 28), .lit (.int .i64 31), .lit (.int .i64 30), .lit (.int .i64 31), .lit (.int .i64 30), .lit (.int .i64 31), .lit (.int .i64 31), .lit (.int .i64 30), .lit (.int .i64 31), .lit (.int .i64 30), .lit (.int .i64 31)]
def laid_horologe_cal_spans {H : Type} : DataW H := .agg [.agg [.lit (.int .i64 400), .lit (.int .i64 146097), .lit (.int .i64 24)], .agg [.lit (.int .i64 100), .lit (.int .i64 36524), .lit (.int .i64 3)], .agg [.lit (.int .i64 4), .lit (.int .i64 1461), .lit (.int .i64 24)], .agg [.lit (.int .i64 1), .lit (.int .i64 365), .lit (.int .i64 3)]]
def laid_math_bits_deBruijn32tab {H : Type} : DataW H := .agg [.lit (.int .u8 0), .lit (.int .u8 1), .lit (.int .u8 28), .lit (.int .u8 2), .lit (.int .u8 29), .lit (.int .u8 14), .lit (.int .u8 24), .lit (.int .u8 3), .lit (.int .u8 30), .lit (.int .u8 22), .lit (.int .u8 20), .lit (.int .u8 15), .lit (.int .u8 25), .lit (.int .u8 17), .lit (.int .u8 4), .lit (.int .u8 8), .lit (.int .u8 31), .lit (.int .u8 27), .lit (.int .u8 13), .lit (.int .u8 23), .lit (.int .u8 21), .lit (.int .u8 19), .lit (.int .u8 16), .lit (.int .u8 7), .lit (.int .u8 26), .lit (.int .u8 12), .lit (.int .u8 18), .lit (.int .u8 6), .lit (.int .u8 11), .lit (.int .u8 5), .lit (.int .u8 10), .lit (.int .u8 9)]
def laid_math_bits_deBruijn64tab {H : Type} : DataW H := .agg [.lit (.int .u8 0), .lit (.int .u8 1), .lit (.int .u8 56), .lit (.int .u8 2), .lit (.int .u8 57), .lit (.int .u8 49), .lit (.int .u8 28), .lit (.int .u8 3), .lit (.int .u8 61), .lit (.int .u8 58), .lit (.int .u8 42), .lit (.int .u8 50), .lit (.int .u8 38), .lit (.int .u8 29), .lit (.int .u8 17), .lit (.int .u8 4), .lit (.int .u8 62), .lit (.int .u8 47), .lit (.int .u8 59), .lit (.int .u8 36), .lit (.int .u8 45), .lit (.int .u8 43), .lit (.int .u8 51), .lit (.int .u8 22), .lit (.int .u8 53), .lit (.int .u8 39), .lit (.int .u8 33), .lit (.int .u8 30), .lit (.int .u8 24), .lit (.int .u8 18), .lit (.int .u8 12), .lit (.int .u8 5), .lit (.int .u8 63), .lit (.int .u8 55), .lit (.int .u8 48), .lit (.int .u8 27), .lit (.int .u8 60), .lit (.int .u8 41), .lit (.int .u8 37), .lit (.int .u8 16), .lit (.int .u8 46), .lit (.int .u8 35), .lit (.int .u8 44), .lit (.int .u8 21), .lit (.int .u8 52), .lit (.int .u8 32), .lit (.int .u8 23), .lit (.int .u8 11), .lit (.int .u8 54), .lit (.int .u8 26), .lit (.int .u8 40), .lit (.int .u8 15), .lit (.int .u8 34), .lit (.int .u8 20), .lit (.int .u8 31), .lit (.int .u8 10), .lit (.int .u8 25), .lit (.int .u8 14), .lit (.int .u8 19), .lit (.int .u8 9), .lit (.int .u8 13), .lit (.int .u8 8), .lit (.int .u8 7), .lit (.int .u8 6)]
def laid_internal_strconv_uint64pow10 {H : Type} : DataW H := .agg [.lit (.int .u64 1), .lit (.int .u64 10), .lit (.int .u64 100), .lit (.int .u64 1000), .lit (.int .u64 10000), .lit (.int .u64 100000), .lit (.int .u64 1000000), .lit (.int .u64 10000000), .lit (.int .u64 100000000), .lit (.int .u64 1000000000), .lit (.int .u64 10000000000), .lit (.int .u64 100000000000), .lit (.int .u64 1000000000000), .lit (.int .u64 10000000000000), .lit (.int .u64 100000000000000), .lit (.int .u64 1000000000000000), .lit (.int .u64 10000000000000000), .lit (.int .u64 100000000000000000), .lit (.int .u64 1000000000000000000), .lit (.int .u64 10000000000000000000)]
def laid_horologe_cron_bounds {H : Type} : DataW H := .agg [.agg [.lit (.int .i64 0), .lit (.int .i64 59)], .agg [.lit (.int .i64 0), .lit (.int .i64 23)], .agg [.lit (.int .i64 1), .lit (.int .i64 31)], .agg [.lit (.int .i64 1), .lit (.int .i64 12)], .agg [.lit (.int .i64 0), .lit (.int .i64 6)]]

/-- 'horologelaw6.CronTexts': WHATEVER THE INPUT: true; the input reads as it did. -/
def cronTextsSpec : ChangeSpec := { name := "cronTexts", fn := fun _ => fun
  | [d] => { results := [.lit (.bool true)], args := [d] }
  | _ => none }
def cronTextsRow : OpenClaim := { program := "ytdojpnhjnhecmaadoor", sum := "9a17964022c39dd9960eed1b1a5928efdd8190559a53d873ce0905cb64906647", func := "horologe/horologelaw6.CronTexts", spec := "cronTexts", inPlace := ["internal/abi.NoEscape", "internal/bytealg.MakeNoZero"], unfollowed := true, recurses := true, named := ["horologe/cron.bounds", "horologe/cal.monthDays", "horologe/cal.spans", "math/bits.deBruijn64tab", "internal/strconv.uint64pow10", "math/bits.deBruijn32tab"], apart := false, laid := [("horologe/cal.monthDays", laid_horologe_cal_monthDays), ("horologe/cal.spans", laid_horologe_cal_spans), ("math/bits.deBruijn32tab", laid_math_bits_deBruijn32tab), ("math/bits.deBruijn64tab", laid_math_bits_deBruijn64tab), ("internal/strconv.uint64pow10", laid_internal_strconv_uint64pow10), ("horologe/cron.bounds", laid_horologe_cron_bounds)] }
def CronTextsSaid : Prop := cronTextsRow.holds Tryd.pinned (OpenSpec.ofChange cronTextsSpec)

/-- ITS FALSE NEIGHBOUR: 'it returns false'. Refute it at one input. -/
def cronTextsWrong : ChangeSpec := { name := "cronTexts", fn := fun _ => fun
  | [d] => { results := [.lit (.bool false)], args := [d] }
  | _ => none }
def CronTextsWrongFalsely : Prop := cronTextsRow.holds Tryd.pinned (OpenSpec.ofChange cronTextsWrong)

/-- 'horologelaw6.CronFinds': WHATEVER THE INPUT: true; the input reads as it did. -/
def cronFindsSpec : ChangeSpec := { name := "cronFinds", fn := fun _ => fun
  | [d1, d2, d3, d4] => { results := [.lit (.bool true)], args := [d1, d2, d3, d4] }
  | _ => none }
def cronFindsRow : OpenClaim := { program := "ytdojpnhjnhecmaadoor", sum := "9a17964022c39dd9960eed1b1a5928efdd8190559a53d873ce0905cb64906647", func := "horologe/horologelaw6.CronFinds", spec := "cronFinds", inPlace := ["internal/abi.NoEscape", "internal/bytealg.MakeNoZero"], unfollowed := true, recurses := true, named := ["horologe/cron.bounds", "horologe/cal.monthDays", "horologe/cal.spans", "math/bits.deBruijn64tab", "internal/strconv.uint64pow10", "math/bits.deBruijn32tab"], apart := false, laid := [("horologe/cal.monthDays", laid_horologe_cal_monthDays), ("horologe/cal.spans", laid_horologe_cal_spans), ("math/bits.deBruijn32tab", laid_math_bits_deBruijn32tab), ("math/bits.deBruijn64tab", laid_math_bits_deBruijn64tab), ("internal/strconv.uint64pow10", laid_internal_strconv_uint64pow10), ("horologe/cron.bounds", laid_horologe_cron_bounds)] }
def CronFindsSaid : Prop := cronFindsRow.holds Tryd.pinned (OpenSpec.ofChange cronFindsSpec)

/-- ITS FALSE NEIGHBOUR: 'it returns false'. Refute it at one input. -/
def cronFindsWrong : ChangeSpec := { name := "cronFinds", fn := fun _ => fun
  | [d1, d2, d3, d4] => { results := [.lit (.bool false)], args := [d1, d2, d3, d4] }
  | _ => none }
def CronFindsWrongFalsely : Prop := cronFindsRow.holds Tryd.pinned (OpenSpec.ofChange cronFindsWrong)

/-- 'horologelaw6.CronNext': WHATEVER THE INPUT: true; the input reads as it did. -/
def cronNextSpec : ChangeSpec := { name := "cronNext", fn := fun _ => fun
  | [d1, d2, d3] => { results := [.lit (.bool true)], args := [d1, d2, d3] }
  | _ => none }
def cronNextRow : OpenClaim := { program := "ytdojpnhjnhecmaadoor", sum := "9a17964022c39dd9960eed1b1a5928efdd8190559a53d873ce0905cb64906647", func := "horologe/horologelaw6.CronNext", spec := "cronNext", inPlace := ["internal/abi.NoEscape", "internal/bytealg.MakeNoZero"], unfollowed := true, recurses := true, named := ["horologe/cron.bounds", "horologe/cal.monthDays", "horologe/cal.spans", "math/bits.deBruijn64tab", "internal/strconv.uint64pow10", "math/bits.deBruijn32tab"], apart := false, laid := [("horologe/cal.monthDays", laid_horologe_cal_monthDays), ("horologe/cal.spans", laid_horologe_cal_spans), ("math/bits.deBruijn32tab", laid_math_bits_deBruijn32tab), ("math/bits.deBruijn64tab", laid_math_bits_deBruijn64tab), ("internal/strconv.uint64pow10", laid_internal_strconv_uint64pow10), ("horologe/cron.bounds", laid_horologe_cron_bounds)] }
def CronNextSaid : Prop := cronNextRow.holds Tryd.pinned (OpenSpec.ofChange cronNextSpec)

/-- ITS FALSE NEIGHBOUR: 'it returns false'. Refute it at one input. -/
def cronNextWrong : ChangeSpec := { name := "cronNext", fn := fun _ => fun
  | [d1, d2, d3] => { results := [.lit (.bool false)], args := [d1, d2, d3] }
  | _ => none }
def CronNextWrongFalsely : Prop := cronNextRow.holds Tryd.pinned (OpenSpec.ofChange cronNextWrong)

/-- 'horologelaw6.CronFields': WHATEVER THE INPUT: true; the input reads as it did. -/
def cronFieldsSpec : ChangeSpec := { name := "cronFields", fn := fun _ => fun
  | [d1, d2, d3, d4] => { results := [.lit (.bool true)], args := [d1, d2, d3, d4] }
  | _ => none }
def cronFieldsRow : OpenClaim := { program := "ytdojpnhjnhecmaadoor", sum := "9a17964022c39dd9960eed1b1a5928efdd8190559a53d873ce0905cb64906647", func := "horologe/horologelaw6.CronFields", spec := "cronFields", inPlace := ["internal/abi.NoEscape", "internal/bytealg.MakeNoZero"], unfollowed := true, recurses := true, named := ["horologe/cron.bounds", "horologe/cal.monthDays", "horologe/cal.spans", "math/bits.deBruijn64tab", "internal/strconv.uint64pow10", "math/bits.deBruijn32tab"], apart := false, laid := [("horologe/cal.monthDays", laid_horologe_cal_monthDays), ("horologe/cal.spans", laid_horologe_cal_spans), ("math/bits.deBruijn32tab", laid_math_bits_deBruijn32tab), ("math/bits.deBruijn64tab", laid_math_bits_deBruijn64tab), ("internal/strconv.uint64pow10", laid_internal_strconv_uint64pow10), ("horologe/cron.bounds", laid_horologe_cron_bounds)] }
def CronFieldsSaid : Prop := cronFieldsRow.holds Tryd.pinned (OpenSpec.ofChange cronFieldsSpec)

/-- ITS FALSE NEIGHBOUR: 'it returns false'. Refute it at one input. -/
def cronFieldsWrong : ChangeSpec := { name := "cronFields", fn := fun _ => fun
  | [d1, d2, d3, d4] => { results := [.lit (.bool false)], args := [d1, d2, d3, d4] }
  | _ => none }
def CronFieldsWrongFalsely : Prop := cronFieldsRow.holds Tryd.pinned (OpenSpec.ofChange cronFieldsWrong)

/-- 'horologelaw6.CronDays': WHATEVER THE INPUT: true; the input reads as it did. -/
def cronDaysSpec : ChangeSpec := { name := "cronDays", fn := fun _ => fun
  | [d1, d2, d3, d4, d5] => { results := [.lit (.bool true)], args := [d1, d2, d3, d4, d5] }
  | _ => none }
def cronDaysRow : OpenClaim := { program := "ytdojpnhjnhecmaadoor", sum := "9a17964022c39dd9960eed1b1a5928efdd8190559a53d873ce0905cb64906647", func := "horologe/horologelaw6.CronDays", spec := "cronDays", inPlace := ["internal/abi.NoEscape", "internal/bytealg.MakeNoZero"], unfollowed := true, recurses := true, named := ["horologe/cron.bounds", "horologe/cal.monthDays", "horologe/cal.spans", "math/bits.deBruijn64tab", "internal/strconv.uint64pow10", "math/bits.deBruijn32tab"], apart := false, laid := [("horologe/cal.monthDays", laid_horologe_cal_monthDays), ("horologe/cal.spans", laid_horologe_cal_spans), ("math/bits.deBruijn32tab", laid_math_bits_deBruijn32tab), ("math/bits.deBruijn64tab", laid_math_bits_deBruijn64tab), ("internal/strconv.uint64pow10", laid_internal_strconv_uint64pow10), ("horologe/cron.bounds", laid_horologe_cron_bounds)] }
def CronDaysSaid : Prop := cronDaysRow.holds Tryd.pinned (OpenSpec.ofChange cronDaysSpec)

/-- ITS FALSE NEIGHBOUR: 'it returns false'. Refute it at one input. -/
def cronDaysWrong : ChangeSpec := { name := "cronDays", fn := fun _ => fun
  | [d1, d2, d3, d4, d5] => { results := [.lit (.bool false)], args := [d1, d2, d3, d4, d5] }
  | _ => none }
def CronDaysWrongFalsely : Prop := cronDaysRow.holds Tryd.pinned (OpenSpec.ofChange cronDaysWrong)

/-- 'horologelaw6.CronEvery': WHATEVER THE INPUT: true; the input reads as it did. -/
def cronEverySpec : ChangeSpec := { name := "cronEvery", fn := fun _ => fun
  | [d1, d2] => { results := [.lit (.bool true)], args := [d1, d2] }
  | _ => none }
def cronEveryRow : OpenClaim := { program := "ytdojpnhjnhecmaadoor", sum := "9a17964022c39dd9960eed1b1a5928efdd8190559a53d873ce0905cb64906647", func := "horologe/horologelaw6.CronEvery", spec := "cronEvery", inPlace := ["internal/abi.NoEscape", "internal/bytealg.MakeNoZero"], unfollowed := true, recurses := true, named := ["horologe/cron.bounds", "horologe/cal.monthDays", "horologe/cal.spans", "math/bits.deBruijn64tab", "internal/strconv.uint64pow10", "math/bits.deBruijn32tab"], apart := false, laid := [("horologe/cal.monthDays", laid_horologe_cal_monthDays), ("horologe/cal.spans", laid_horologe_cal_spans), ("math/bits.deBruijn32tab", laid_math_bits_deBruijn32tab), ("math/bits.deBruijn64tab", laid_math_bits_deBruijn64tab), ("internal/strconv.uint64pow10", laid_internal_strconv_uint64pow10), ("horologe/cron.bounds", laid_horologe_cron_bounds)] }
def CronEverySaid : Prop := cronEveryRow.holds Tryd.pinned (OpenSpec.ofChange cronEverySpec)

/-- ITS FALSE NEIGHBOUR: 'it returns false'. Refute it at one input. -/
def cronEveryWrong : ChangeSpec := { name := "cronEvery", fn := fun _ => fun
  | [d1, d2] => { results := [.lit (.bool false)], args := [d1, d2] }
  | _ => none }
def CronEveryWrongFalsely : Prop := cronEveryRow.holds Tryd.pinned (OpenSpec.ofChange cronEveryWrong)

/- THE SECOND FORM. 'bulk': how many values and letters a reading holds, each counted each time it is reached (what is shared counts as often as it is met; a slice's spare places count too). A statement '..UptoSaid' is the law's where the arguments, and the package variables that the reading takes, are together of bulk at most 1048576: NARROWER than '..Said'. Prove '..Said' where nothing that the law and all that it calls make is longer than what came in: it says more and counts as full. Else prove '..UptoSaid'. A law counts once. -/
mutual
def uptoBulk {H : Type} : DataW H → Nat
  | .lit (.string bytes) => bytes.length + 1
  | .lit _ => 1
  | .nil => 1
  | .ptr d => uptoBulk d + 1
  | .slice elems spare => uptoBulkAll elems + uptoBulkAll spare + 1
  | .agg parts => uptoBulkAll parts + 1
  | .iface _ d => uptoBulk d + 1
  | .map entries => uptoBulkEntries entries + 1
  | .held _ => 1
def uptoBulkAll {H : Type} : List (DataW H) → Nat
  | [] => 0
  | d :: r => uptoBulk d + uptoBulkAll r
def uptoBulkEntries {H : Type} : List (Lit × DataW H) → Nat
  | [] => 0
  | x :: r => uptoBulkEntry x + uptoBulkEntries r
def uptoBulkEntry {H : Type} : Lit × DataW H → Nat
  | (.string bytes, d) => bytes.length + uptoBulk d + 1
  | (_, d) => uptoBulk d + 1
 end
def uptoSmall : (H : Type) → List (DataW H) → Bool := fun _ ds => decide (uptoBulkAll ds ≤ 1048576)
def OpenSpec.upto (s : _root_.Go.ChangeSpec) : _root_.Go.OpenSpec := { _root_.Go.OpenSpec.ofChange s with cond := some uptoSmall }

/-- 'horologelaw6.CronTexts', WHERE WHAT IT READS IS OF BULK AT MOST 1048576: true; the input reads as it did. -/
def cronTextsUptoRow : OpenClaim := { program := "ytdojpnhjnhecmaadoor", sum := "9a17964022c39dd9960eed1b1a5928efdd8190559a53d873ce0905cb64906647", func := "horologe/horologelaw6.CronTexts", spec := "cronTexts", inPlace := ["internal/abi.NoEscape", "internal/bytealg.MakeNoZero"], unfollowed := true, recurses := true, named := ["horologe/cron.bounds", "horologe/cal.monthDays", "horologe/cal.spans", "math/bits.deBruijn64tab", "internal/strconv.uint64pow10", "math/bits.deBruijn32tab"], apart := false, laid := [("horologe/cal.monthDays", laid_horologe_cal_monthDays), ("horologe/cal.spans", laid_horologe_cal_spans), ("math/bits.deBruijn32tab", laid_math_bits_deBruijn32tab), ("math/bits.deBruijn64tab", laid_math_bits_deBruijn64tab), ("internal/strconv.uint64pow10", laid_internal_strconv_uint64pow10), ("horologe/cron.bounds", laid_horologe_cron_bounds)], narrowed := true }
def CronTextsUptoSaid : Prop := cronTextsUptoRow.holds Tryd.pinned (OpenSpec.upto cronTextsSpec)

/-- 'horologelaw6.CronFinds', WHERE WHAT IT READS IS OF BULK AT MOST 1048576: true; the input reads as it did. -/
def cronFindsUptoRow : OpenClaim := { program := "ytdojpnhjnhecmaadoor", sum := "9a17964022c39dd9960eed1b1a5928efdd8190559a53d873ce0905cb64906647", func := "horologe/horologelaw6.CronFinds", spec := "cronFinds", inPlace := ["internal/abi.NoEscape", "internal/bytealg.MakeNoZero"], unfollowed := true, recurses := true, named := ["horologe/cron.bounds", "horologe/cal.monthDays", "horologe/cal.spans", "math/bits.deBruijn64tab", "internal/strconv.uint64pow10", "math/bits.deBruijn32tab"], apart := false, laid := [("horologe/cal.monthDays", laid_horologe_cal_monthDays), ("horologe/cal.spans", laid_horologe_cal_spans), ("math/bits.deBruijn32tab", laid_math_bits_deBruijn32tab), ("math/bits.deBruijn64tab", laid_math_bits_deBruijn64tab), ("internal/strconv.uint64pow10", laid_internal_strconv_uint64pow10), ("horologe/cron.bounds", laid_horologe_cron_bounds)], narrowed := true }
def CronFindsUptoSaid : Prop := cronFindsUptoRow.holds Tryd.pinned (OpenSpec.upto cronFindsSpec)

/-- 'horologelaw6.CronNext', WHERE WHAT IT READS IS OF BULK AT MOST 1048576: true; the input reads as it did. -/
def cronNextUptoRow : OpenClaim := { program := "ytdojpnhjnhecmaadoor", sum := "9a17964022c39dd9960eed1b1a5928efdd8190559a53d873ce0905cb64906647", func := "horologe/horologelaw6.CronNext", spec := "cronNext", inPlace := ["internal/abi.NoEscape", "internal/bytealg.MakeNoZero"], unfollowed := true, recurses := true, named := ["horologe/cron.bounds", "horologe/cal.monthDays", "horologe/cal.spans", "math/bits.deBruijn64tab", "internal/strconv.uint64pow10", "math/bits.deBruijn32tab"], apart := false, laid := [("horologe/cal.monthDays", laid_horologe_cal_monthDays), ("horologe/cal.spans", laid_horologe_cal_spans), ("math/bits.deBruijn32tab", laid_math_bits_deBruijn32tab), ("math/bits.deBruijn64tab", laid_math_bits_deBruijn64tab), ("internal/strconv.uint64pow10", laid_internal_strconv_uint64pow10), ("horologe/cron.bounds", laid_horologe_cron_bounds)], narrowed := true }
def CronNextUptoSaid : Prop := cronNextUptoRow.holds Tryd.pinned (OpenSpec.upto cronNextSpec)

/-- 'horologelaw6.CronFields', WHERE WHAT IT READS IS OF BULK AT MOST 1048576: true; the input reads as it did. -/
def cronFieldsUptoRow : OpenClaim := { program := "ytdojpnhjnhecmaadoor", sum := "9a17964022c39dd9960eed1b1a5928efdd8190559a53d873ce0905cb64906647", func := "horologe/horologelaw6.CronFields", spec := "cronFields", inPlace := ["internal/abi.NoEscape", "internal/bytealg.MakeNoZero"], unfollowed := true, recurses := true, named := ["horologe/cron.bounds", "horologe/cal.monthDays", "horologe/cal.spans", "math/bits.deBruijn64tab", "internal/strconv.uint64pow10", "math/bits.deBruijn32tab"], apart := false, laid := [("horologe/cal.monthDays", laid_horologe_cal_monthDays), ("horologe/cal.spans", laid_horologe_cal_spans), ("math/bits.deBruijn32tab", laid_math_bits_deBruijn32tab), ("math/bits.deBruijn64tab", laid_math_bits_deBruijn64tab), ("internal/strconv.uint64pow10", laid_internal_strconv_uint64pow10), ("horologe/cron.bounds", laid_horologe_cron_bounds)], narrowed := true }
def CronFieldsUptoSaid : Prop := cronFieldsUptoRow.holds Tryd.pinned (OpenSpec.upto cronFieldsSpec)

/-- 'horologelaw6.CronDays', WHERE WHAT IT READS IS OF BULK AT MOST 1048576: true; the input reads as it did. -/
def cronDaysUptoRow : OpenClaim := { program := "ytdojpnhjnhecmaadoor", sum := "9a17964022c39dd9960eed1b1a5928efdd8190559a53d873ce0905cb64906647", func := "horologe/horologelaw6.CronDays", spec := "cronDays", inPlace := ["internal/abi.NoEscape", "internal/bytealg.MakeNoZero"], unfollowed := true, recurses := true, named := ["horologe/cron.bounds", "horologe/cal.monthDays", "horologe/cal.spans", "math/bits.deBruijn64tab", "internal/strconv.uint64pow10", "math/bits.deBruijn32tab"], apart := false, laid := [("horologe/cal.monthDays", laid_horologe_cal_monthDays), ("horologe/cal.spans", laid_horologe_cal_spans), ("math/bits.deBruijn32tab", laid_math_bits_deBruijn32tab), ("math/bits.deBruijn64tab", laid_math_bits_deBruijn64tab), ("internal/strconv.uint64pow10", laid_internal_strconv_uint64pow10), ("horologe/cron.bounds", laid_horologe_cron_bounds)], narrowed := true }
def CronDaysUptoSaid : Prop := cronDaysUptoRow.holds Tryd.pinned (OpenSpec.upto cronDaysSpec)

/-- 'horologelaw6.CronEvery', WHERE WHAT IT READS IS OF BULK AT MOST 1048576: true; the input reads as it did. -/
def cronEveryUptoRow : OpenClaim := { program := "ytdojpnhjnhecmaadoor", sum := "9a17964022c39dd9960eed1b1a5928efdd8190559a53d873ce0905cb64906647", func := "horologe/horologelaw6.CronEvery", spec := "cronEvery", inPlace := ["internal/abi.NoEscape", "internal/bytealg.MakeNoZero"], unfollowed := true, recurses := true, named := ["horologe/cron.bounds", "horologe/cal.monthDays", "horologe/cal.spans", "math/bits.deBruijn64tab", "internal/strconv.uint64pow10", "math/bits.deBruijn32tab"], apart := false, laid := [("horologe/cal.monthDays", laid_horologe_cal_monthDays), ("horologe/cal.spans", laid_horologe_cal_spans), ("math/bits.deBruijn32tab", laid_math_bits_deBruijn32tab), ("math/bits.deBruijn64tab", laid_math_bits_deBruijn64tab), ("internal/strconv.uint64pow10", laid_internal_strconv_uint64pow10), ("horologe/cron.bounds", laid_horologe_cron_bounds)], narrowed := true }
def CronEveryUptoSaid : Prop := cronEveryUptoRow.holds Tryd.pinned (OpenSpec.upto cronEverySpec)

end Rows
end Go.Proofs.YtdojpnhjnhecmaaDoor
