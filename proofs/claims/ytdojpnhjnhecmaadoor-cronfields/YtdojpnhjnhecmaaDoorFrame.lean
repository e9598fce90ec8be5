/- What the statements' frames share: the two tables as the row lists them, the start that fits, a date that came in. -/
import Derived.Test.YtdojpnhjnhecmaaDoorC1
import Derived.ProofKit
import Derived.LaidMore
import Derived.LaidSub
import Derived.OpenShut
import Derived.Stop.Joined
import Derived.Lib.LaidTab
namespace Go.Proofs.YtdojpnhjnhecmaaDoor
open Go Go.ChangeShapes Go.WideShapes Go.ChangeAt Go.RowKit

theorem own : ownKnob Tryd.prog.godebug = none := by kernel_rfl
theorem laidOut : laidOutB Tryd.prog = true := by kernel_rfl
abbrev laid6 : List (String × DataW Unit) := [("horologe/cal.monthDays", Rows.laid_horologe_cal_monthDays), ("horologe/cal.spans", Rows.laid_horologe_cal_spans), ("math/bits.deBruijn32tab", Rows.laid_math_bits_deBruijn32tab), ("math/bits.deBruijn64tab", Rows.laid_math_bits_deBruijn64tab), ("internal/strconv.uint64pow10", Rows.laid_internal_strconv_uint64pow10), ("horologe/cron.bounds", Rows.laid_horologe_cron_bounds)]
abbrev laidM : List (String × DataW Unit) := [("horologe/cal.monthDays", Rows.laid_horologe_cal_monthDays)]
abbrev laidS : List (String × DataW Unit) := [("horologe/cal.spans", Rows.laid_horologe_cal_spans)]
abbrev laidD : List (String × DataW Unit) := [("math/bits.deBruijn64tab", Rows.laid_math_bits_deBruijn64tab)]
abbrev laidB : List (String × DataW Unit) := [("horologe/cron.bounds", Rows.laid_horologe_cron_bounds)]
theorem gM : Tryd.prog.globalNamed "horologe/cal.monthDays" = some 2 := by kernel_rfl
theorem gS : Tryd.prog.globalNamed "horologe/cal.spans" = some 1 := by kernel_rfl
theorem gD : Tryd.prog.globalNamed "math/bits.deBruijn64tab" = some 3 := by kernel_rfl
theorem gB : Tryd.prog.globalNamed "horologe/cron.bounds" = some 0 := by kernel_rfl
theorem tM : (Tryd.prog.globals[2]?).map (·.type) = some 114 := by kernel_rfl
theorem tS : (Tryd.prog.globals[1]?).map (·.type) = some 109 := by kernel_rfl
theorem tD : (Tryd.prog.globals[3]?).map (·.type) = some 119 := by kernel_rfl
theorem tB : (Tryd.prog.globals[0]?).map (·.type) = some 99 := by kernel_rfl
theorem cellsI : Tryd.prog.cellsOf 3 = 1 := by kernel_rfl
theorem cellsU : Tryd.prog.cellsOf 5 = 1 := by kernel_rfl
theorem cellsM : Tryd.prog.cellsOf 114 = 12 := by kernel_rfl
theorem cellsD : Tryd.prog.cellsOf 119 = 64 := by kernel_rfl
theorem cells108 : Tryd.prog.cellsOf 108 = 3 := by kernel_rfl
theorem cellsS : Tryd.prog.cellsOf 109 = 12 := by kernel_rfl
theorem cells98 : Tryd.prog.cellsOf 98 = 2 := by kernel_rfl
theorem cellsB : Tryd.prog.cellsOf 99 = 10 := by kernel_rfl

theorem span3 {H : Type} {enc : TypeId × Value → H} {w : World} {base : Nat} {sp : Nat → Bool} {held : Bool} {fuel : Nat} {a b c : Value} {i j k : Int} {x : DataW H × List MemPlace}
    (h : DataW.trod enc Tryd.prog w base sp held fuel 108 [a, b, c] = some x) (hx : x.1 = .agg [.lit (.int .i64 i), .lit (.int .i64 j), .lit (.int .i64 k)]) : a = .int .i64 i ∧ b = .int .i64 j ∧ c = .int .i64 k := by
  obtain ⟨xs, n, _, rfl, hl, hlen, hf⟩ := DataW.trod_struct Tryd.underlying108 h
  have f0 : DataW.trod enc Tryd.prog w base sp held n 3 (([a, b, c].drop 0).take (Tryd.prog.cellsOf 3)) = xs[0]? := hf 0 _ rfl
  have f1 : DataW.trod enc Tryd.prog w base sp held n 3 (([a, b, c].drop 1).take (Tryd.prog.cellsOf 3)) = xs[1]? := hf 1 _ rfl
  have f2 : DataW.trod enc Tryd.prog w base sp held n 3 (([a, b, c].drop 2).take (Tryd.prog.cellsOf 3)) = xs[2]? := hf 2 _ rfl
  rw [cellsI] at f0 f1 f2
  simp only [List.drop_zero, List.drop_succ_cons, List.take_succ_cons, List.take_zero] at f0 f1 f2
  match xs, hlen with
  | [x0, x1, x2], _ =>
    simp only [List.map_cons, List.map_nil, DataW.agg.injEq, List.cons.injEq, and_true] at hx
    obtain ⟨z0, e0, rfl, _⟩ := DataW.trod_int Tryd.underlying3 f0
    obtain ⟨z1, e1, rfl, _⟩ := DataW.trod_int Tryd.underlying3 f1
    obtain ⟨z2, e2, rfl, _⟩ := DataW.trod_int Tryd.underlying3 f2
    simp_all
theorem spans_cells {H : Type} {enc : TypeId × Value → H} {w : World} {base : Nat} {sp : Nat → Bool} {held : Bool} {fuel : Nat} {cs : List Value} {p : List MemPlace}
    (h : DataW.trod enc Tryd.prog w base sp held fuel 109 cs = some (Rows.laid_horologe_cal_spans, p)) : cs = ([400, 146097, 24, 100, 36524, 3, 4, 1461, 24, 1, 365, 3] : List Int).map (Value.int .i64) := by
  obtain ⟨xs, m, _, hx, hl, hxl, hf⟩ := DataW.trod_array Tryd.underlying109 h
  rw [cellsS] at hl
  rw [cells108] at hf
  match xs, hxl with
  | [x0, x1, x2, x3], _ =>
    match cs, hl with
    | [c0, c1, c2, c3, c4, c5, c6, c7, c8, c9, c10, c11], _ =>
      have f0 := hf 0 (by decide)
      have f1 := hf 1 (by decide)
      have f2 := hf 2 (by decide)
      have f3 := hf 3 (by decide)
      simp only [List.drop_zero, List.drop_succ_cons, List.take_succ_cons, List.take_zero, Nat.reduceMul, List.getElem?_cons_zero, List.getElem?_cons_succ] at f0 f1 f2 f3
      have hx1 := congrArg Prod.fst hx
      simp only [Rows.laid_horologe_cal_spans, List.map_cons, List.map_nil, DataW.agg.injEq, List.cons.injEq, and_true] at hx1
      obtain ⟨rfl, rfl, rfl⟩ := span3 f0 hx1.1.symm
      obtain ⟨rfl, rfl, rfl⟩ := span3 f1 hx1.2.1.symm
      obtain ⟨rfl, rfl, rfl⟩ := span3 f2 hx1.2.2.1.symm
      obtain ⟨rfl, rfl, rfl⟩ := span3 f3 hx1.2.2.2.symm
      rfl
theorem bound2 {H : Type} {enc : TypeId × Value → H} {w : World} {base : Nat} {sp : Nat → Bool} {held : Bool} {fuel : Nat} {a b : Value} {i j : Int} {x : DataW H × List MemPlace}
    (h : DataW.trod enc Tryd.prog w base sp held fuel 98 [a, b] = some x) (hx : x.1 = .agg [.lit (.int .i64 i), .lit (.int .i64 j)]) : a = .int .i64 i ∧ b = .int .i64 j := by
  obtain ⟨xs, n, _, rfl, hl, hlen, hf⟩ := DataW.trod_struct Tryd.underlying98 h
  have f0 : DataW.trod enc Tryd.prog w base sp held n 3 (([a, b].drop 0).take (Tryd.prog.cellsOf 3)) = xs[0]? := hf 0 _ rfl
  have f1 : DataW.trod enc Tryd.prog w base sp held n 3 (([a, b].drop 1).take (Tryd.prog.cellsOf 3)) = xs[1]? := hf 1 _ rfl
  rw [cellsI] at f0 f1
  simp only [List.drop_zero, List.drop_succ_cons, List.take_succ_cons, List.take_zero] at f0 f1
  match xs, hlen with
  | [x0, x1], _ =>
    simp only [List.map_cons, List.map_nil, DataW.agg.injEq, List.cons.injEq, and_true] at hx
    obtain ⟨z0, e0, rfl, _⟩ := DataW.trod_int Tryd.underlying3 f0
    obtain ⟨z1, e1, rfl, _⟩ := DataW.trod_int Tryd.underlying3 f1
    simp_all
theorem bounds_cells {H : Type} {enc : TypeId × Value → H} {w : World} {base : Nat} {sp : Nat → Bool} {held : Bool} {fuel : Nat} {cs : List Value} {p : List MemPlace}
    (h : DataW.trod enc Tryd.prog w base sp held fuel 99 cs = some (Rows.laid_horologe_cron_bounds, p)) : cs = ([0, 59, 0, 23, 1, 31, 1, 12, 0, 6] : List Int).map (Value.int .i64) := by
  obtain ⟨xs, m, _, hx, hl, hxl, hf⟩ := DataW.trod_array Tryd.underlying99 h
  rw [cellsB] at hl
  rw [cells98] at hf
  match xs, hxl with
  | [x0, x1, x2, x3, x4], _ =>
    match cs, hl with
    | [c0, c1, c2, c3, c4, c5, c6, c7, c8, c9], _ =>
      have f0 := hf 0 (by decide)
      have f1 := hf 1 (by decide)
      have f2 := hf 2 (by decide)
      have f3 := hf 3 (by decide)
      have f4 := hf 4 (by decide)
      simp only [List.drop_zero, List.drop_succ_cons, List.take_succ_cons, List.take_zero, Nat.reduceMul, List.getElem?_cons_zero, List.getElem?_cons_succ] at f0 f1 f2 f3 f4
      have hx1 := congrArg Prod.fst hx
      simp only [Rows.laid_horologe_cron_bounds, List.map_cons, List.map_nil, DataW.agg.injEq, List.cons.injEq, and_true] at hx1
      obtain ⟨rfl, rfl⟩ := bound2 f0 hx1.1.symm
      obtain ⟨rfl, rfl⟩ := bound2 f1 hx1.2.1.symm
      obtain ⟨rfl, rfl⟩ := bound2 f2 hx1.2.2.1.symm
      obtain ⟨rfl, rfl⟩ := bound2 f3 hx1.2.2.2.1.symm
      obtain ⟨rfl, rfl⟩ := bound2 f4 hx1.2.2.2.2.symm
      rfl
theorem tab_of_laid {W : World} (h : laidMetH Tryd.prog laid6 W) : HasT W := by
  have h1 : laidMetH Tryd.prog laidM W := h.filter (fun x => x.1 == "horologe/cal.monthDays")
  have h2 : laidMetH Tryd.prog laidS W := h.filter (fun x => x.1 == "horologe/cal.spans")
  have h3 : laidMetH Tryd.prog laidD W := h.filter (fun x => x.1 == "math/bits.deBruijn64tab")
  have h4 : laidMetH Tryd.prog laidB W := h.filter (fun x => x.1 == "horologe/cron.bounds")
  rw [MakeChecks.laidMetH_plain _ _ _ (by kernel_rfl)] at h1 h2 h3 h4
  have ht := Lib.tabIs_of_head (k := .i64) (zs := [31, 28, 31, 30, 31, 30, 31, 31, 30, 31, 30, 31]) (rest := []) gM tM Tryd.underlying114 Tryd.underlying3 cellsI cellsM h1
  have hd64 := Lib.tabIs_of_head (k := .u8) (zs := Lib.deBruijn64tab.map Int.ofNat) (rest := []) gD tD Tryd.underlying119 Tryd.underlying5 cellsU cellsD h3
  obtain ⟨ps, ⟨g', t', cs, fuel, p, q, hg', ht', hvar, hd, _, _⟩, _⟩ := h2
  obtain rfl := Option.some.inj (gS.symm.trans hg')
  obtain rfl := Option.some.inj (tS.symm.trans ht')
  have hcs := spans_cells hd
  obtain ⟨ps2, ⟨g2, t2, cs2, fuel2, p2, q2, hg2, ht2, hvar2, hd2, _, _⟩, _⟩ := h4
  obtain rfl := Option.some.inj (gB.symm.trans hg2)
  obtain rfl := Option.some.inj (tB.symm.trans ht2)
  have hcs2 := bounds_cells hd2
  refine ⟨fun j hj => ht.cell gM j hj, fun j hj => ?_, fun j hj => ?_, fun j hj => ?_⟩
  · have := World.var?_cell gS hvar j
    rw [this, ← Array.getElem?_toList, hcs]
    match j, hj with
    | 0, _ | 1, _ | 2, _ | 3, _ | 4, _ | 5, _ | 6, _ | 7, _ | 8, _ | 9, _ | 10, _ | 11, _ => rfl
    | j + 12, h => exact absurd h (by omega)
  · have := World.var?_cell gB hvar2 j
    rw [this, ← Array.getElem?_toList, hcs2]
    match j, hj with
    | 0, _ | 1, _ | 2, _ | 3, _ | 4, _ | 5, _ | 6, _ | 7, _ | 8, _ | 9, _ => rfl
    | j + 10, h => exact absurd h (by omega)
  · refine (hd64.cell gD j hj).trans ?_
    have : ∀ j : Fin 64, (Lib.deBruijn64tab.map Int.ofNat).getD j.val 0 = ((Lib.deBruijn64tab.getD j.val 0 : Nat) : Int) := by decide
    rw [this ⟨j, hj⟩]

theorem door_met (os : Os) (args : Array Value) : laidMetH Tryd.prog laid6 ((World.doorLaid Tryd.prog 400 os).forCall (fun _ _ => 0) ⟨#[], args, []⟩).memory :=
  laidMetH_of_parts3 (fuel := 8) (laidMet_of_run' 8 (by kernel_rfl) (by kernel_rfl)) (by kernel_rfl) (by kernel_rfl)
end Go.Proofs.YtdojpnhjnhecmaaDoor
