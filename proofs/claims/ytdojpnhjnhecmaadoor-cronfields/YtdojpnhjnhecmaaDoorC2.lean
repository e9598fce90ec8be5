/- A day's date: dateOf. -/
import Derived.Test.YtdojpnhjnhecmaaDoorC1
import Derived.Deep.LoopGhost
namespace Go.Proofs.YtdojpnhjnhecmaaDoor
open Go Go.RowKit

theorem Hid.mk' {p : Prop} (h : p) : Hid p := h
theorem lt_of_row {w : World} {g : Nat} {o : Obj} (h : w.heap[g]? = some o) : g < w.heap.size := by
  obtain ⟨h', _⟩ := Array.getElem?_eq_some_iff.1 h
  exact h'
abbrev spansV : Value := .agg #[.int .i64 400, .int .i64 146097, .int .i64 24, .int .i64 100, .int .i64 36524, .int .i64 3, .int .i64 4, .int .i64 1461, .int .i64 24, .int .i64 1, .int .i64 365, .int .i64 3]
theorem idx0 (W : World) : (Instr.index 109 spansV (.int .i64 0)).run Tryd.prog W = .ok (.agg #[.int .i64 400, .int .i64 146097, .int .i64 24]) W := by kernel_rfl
theorem idx1 (W : World) : (Instr.index 109 spansV (.int .i64 1)).run Tryd.prog W = .ok (.agg #[.int .i64 100, .int .i64 36524, .int .i64 3]) W := by kernel_rfl
theorem idx2 (W : World) : (Instr.index 109 spansV (.int .i64 2)).run Tryd.prog W = .ok (.agg #[.int .i64 4, .int .i64 1461, .int .i64 24]) W := by kernel_rfl
theorem idx3 (W : World) : (Instr.index 109 spansV (.int .i64 3)).run Tryd.prog W = .ok (.agg #[.int .i64 1, .int .i64 365, .int .i64 3]) W := by kernel_rfl
theorem heap_setCell_row {w : World} {g : Nat} {cur : Array Value} {e : TypeId} (hg : w.heap[g]? = some (.cells cur e (0, 0))) (k : Nat) (u : Value) : (w.setCell ⟨g, k, none⟩ u).heap[g]? = some (.cells (cur.setIfInBounds k u) e (0, 0)) := by
  have hlt : g < w.heap.size := (Array.getElem?_eq_some_iff.1 hg).1
  have hv : w.heap[g] = .cells cur e (0, 0) := (Array.getElem?_eq_some_iff.1 hg).2
  unfold World.setCell
  rw [Array.getElem?_eq_getElem (by simpa using hlt), Array.getElem_modify]
  simp [hv]
theorem heap_setCell_other {w : World} {g : Nat} (p : Addr) (u : Value) (hp : p.block ≠ g) : (w.setCell p u).heap[g]? = w.heap[g]? := by
  unfold World.setCell
  rw [Array.getElem?_modify]
  rw [if_neg hp]
theorem val_eq {k : IntKind} {a b : Int} (h : a = b) : Value.int k a = .int k b := by rw [h]
theorem row_eq {a b c : Int} {v : Value} (h : a = b) : some (Obj.cells (#[.int .i64 c, .int .i64 1, .int .i64 0, .int .i64 0, .int .i64 0, v].setIfInBounds 0 (.int .i64 a)) 55 (0, 0)) = some (.cells #[.int .i64 b, .int .i64 1, .int .i64 0, .int .i64 0, .int .i64 0, v] 55 (0, 0)) := by rw [h]; rfl
theorem info23 : (Tryd.prog.info? 55).map (·.size) = some 6 := by kernel_rfl
/-- What is left of a day, and the year, behind so many spans. -/
def spanA (day : Int) : Int := min (day / 146097) 24
def spanB (day : Int) : Int := min ((day - spanA day * 146097) / 36524) 3
def spanC (day : Int) : Int := min ((day - spanA day * 146097 - spanB day * 36524) / 1461) 24
def spanD (day : Int) : Int := min ((day - spanA day * 146097 - spanB day * 36524 - spanC day * 1461) / 365) 3
def leftAt (day : Int) : Nat → Int
  | 0 => day
  | 1 => day - spanA day * 146097
  | 2 => day - spanA day * 146097 - spanB day * 36524
  | 3 => day - spanA day * 146097 - spanB day * 36524 - spanC day * 1461
  | _ => day - spanA day * 146097 - spanB day * 36524 - spanC day * 1461 - spanD day * 365
def yearAt (day : Int) : Nat → Int
  | 0 => 1
  | 1 => 1 + spanA day * 400
  | 2 => 1 + spanA day * 400 + spanB day * 100
  | 3 => 1 + spanA day * 400 + spanB day * 100 + spanC day * 4
  | _ => 1 + spanA day * 400 + spanB day * 100 + spanC day * 4 + spanD day

theorem span_step0 (day : Int) (h0 : 0 ≤ day) (h1 : day < 3652059) : 0 ≤ leftAt day 0 ∧ leftAt day 0 ≤ 3652059 ∧ 1 ≤ yearAt day 0 ∧ yearAt day 0 ≤ 10000 ∧ leftAt day 1 = leftAt day 0 - min (leftAt day 0 / 146097) 24 * 146097 ∧ yearAt day 1 = yearAt day 0 + min (leftAt day 0 / 146097) 24 * 400 := by
  refine ⟨h0, by show day ≤ _; omega, by show (1 : Int) ≤ 1; decide, by show (1 : Int) ≤ 10000; decide, rfl, rfl⟩
theorem span_bd1 (day : Int) (h0 : 0 ≤ day) (h1 : day < 3652059) : 0 ≤ spanA day ∧ spanA day ≤ 24 ∧ 0 ≤ leftAt day 1 ∧ leftAt day 1 < 146097 := by
  show 0 ≤ spanA day ∧ spanA day ≤ 24 ∧ 0 ≤ day - spanA day * 146097 ∧ day - spanA day * 146097 < 146097
  unfold spanA; omega
theorem span_step1 (day : Int) (h0 : 0 ≤ day) (h1 : day < 3652059) : 0 ≤ leftAt day 1 ∧ leftAt day 1 ≤ 3652059 ∧ 1 ≤ yearAt day 1 ∧ yearAt day 1 ≤ 10000 ∧ leftAt day 2 = leftAt day 1 - min (leftAt day 1 / 36524) 3 * 36524 ∧ yearAt day 2 = yearAt day 1 + min (leftAt day 1 / 36524) 3 * 100 := by
  have h := span_bd1 day h0 h1
  refine ⟨by omega, by omega, by show 1 ≤ 1 + spanA day * 400; omega, by show 1 + spanA day * 400 ≤ 10000; omega, rfl, rfl⟩
theorem span_bd2 (day : Int) (h0 : 0 ≤ day) (h1 : day < 3652059) : 0 ≤ spanB day ∧ spanB day ≤ 3 ∧ 0 ≤ leftAt day 2 ∧ leftAt day 2 < 36525 := by
  have h := span_bd1 day h0 h1
  have e : leftAt day 2 = leftAt day 1 - spanB day * 36524 := rfl
  have e2 : spanB day = min (leftAt day 1 / 36524) 3 := rfl
  omega
theorem span_step2 (day : Int) (h0 : 0 ≤ day) (h1 : day < 3652059) : 0 ≤ leftAt day 2 ∧ leftAt day 2 ≤ 3652059 ∧ 1 ≤ yearAt day 2 ∧ yearAt day 2 ≤ 10000 ∧ leftAt day 3 = leftAt day 2 - min (leftAt day 2 / 1461) 24 * 1461 ∧ yearAt day 3 = yearAt day 2 + min (leftAt day 2 / 1461) 24 * 4 := by
  have h := span_bd1 day h0 h1
  have h2 := span_bd2 day h0 h1
  refine ⟨by omega, by omega, by show 1 ≤ 1 + spanA day * 400 + spanB day * 100; omega, by show 1 + spanA day * 400 + spanB day * 100 ≤ 10000; omega, rfl, rfl⟩
theorem span_bd3 (day : Int) (h0 : 0 ≤ day) (h1 : day < 3652059) : 0 ≤ spanC day ∧ spanC day ≤ 24 ∧ 0 ≤ leftAt day 3 ∧ leftAt day 3 < 1461 := by
  have h := span_bd2 day h0 h1
  have e : leftAt day 3 = leftAt day 2 - spanC day * 1461 := rfl
  have e2 : spanC day = min (leftAt day 2 / 1461) 24 := rfl
  omega
theorem span_step3 (day : Int) (h0 : 0 ≤ day) (h1 : day < 3652059) : 0 ≤ leftAt day 3 ∧ leftAt day 3 ≤ 3652059 ∧ 1 ≤ yearAt day 3 ∧ yearAt day 3 ≤ 10000 ∧ leftAt day 4 = leftAt day 3 - min (leftAt day 3 / 365) 3 * 365 ∧ yearAt day 4 = yearAt day 3 + min (leftAt day 3 / 365) 3 * 1 := by
  have h := span_bd1 day h0 h1
  have h2 := span_bd2 day h0 h1
  have h3 := span_bd3 day h0 h1
  refine ⟨by omega, by omega, by show 1 ≤ 1 + spanA day * 400 + spanB day * 100 + spanC day * 4; omega, by show 1 + spanA day * 400 + spanB day * 100 + spanC day * 4 ≤ 10000; omega, rfl, ?_⟩
  rw [Int.mul_one]; rfl
/-- Behind all spans. -/
theorem span_end (day : Int) (h0 : 0 ≤ day) (h1 : day < 3652059) : 1 ≤ yearAt day 4 ∧ yearAt day 4 ≤ 10000 ∧ bef (yearAt day 4) + leftAt day 4 = day ∧ 0 ≤ leftAt day 4 ∧ leftAt day 4 < 365 + lp (yearAt day 4) := by
  have h := spans_of day (spanA day) (spanB day) (spanC day) (spanD day) h0 h1 rfl rfl rfl rfl
  exact ⟨h.1, h.2.2.2.2, h.2.1, h.2.2.1, h.2.2.2.1⟩

set_option maxHeartbeats 1000000 in
theorem dateOf_any (day : Int) (w : World) (hT : HasT w) (h0 : 0 ≤ day) (h1 : day < 3652059) :
    Calls Tryd.prog 47 #[.int .i64 day] w fun e w' => (∃ y m d, e = .returned (.agg #[.int .i64 y, .int .i64 m, .int .i64 d, .int .i64 0, .int .i64 0, .int .i64 ((day + 1) % 7)]) ∧ IsDate day y m d) ∧ Below w.heap.size w w' := by
  have c0 : ∀ o1 o2 : Obj, ((w.alloc o1).alloc o2).cell? ⟨1, 0, none⟩ = some (.int .i64 400) := fun o1 o2 => (hT.below (((Below.refl _ _).alloc (Nat.le_refl _) o1).alloc (by simp) o2)).sp 0 (by decide)
  have c1 : ∀ o1 o2 : Obj, ((w.alloc o1).alloc o2).cell? ⟨1, 1, none⟩ = some (.int .i64 146097) := fun o1 o2 => (hT.below (((Below.refl _ _).alloc (Nat.le_refl _) o1).alloc (by simp) o2)).sp 1 (by decide)
  have c2 : ∀ o1 o2 : Obj, ((w.alloc o1).alloc o2).cell? ⟨1, 2, none⟩ = some (.int .i64 24) := fun o1 o2 => (hT.below (((Below.refl _ _).alloc (Nat.le_refl _) o1).alloc (by simp) o2)).sp 2 (by decide)
  have c3 : ∀ o1 o2 : Obj, ((w.alloc o1).alloc o2).cell? ⟨1, 3, none⟩ = some (.int .i64 100) := fun o1 o2 => (hT.below (((Below.refl _ _).alloc (Nat.le_refl _) o1).alloc (by simp) o2)).sp 3 (by decide)
  have c4 : ∀ o1 o2 : Obj, ((w.alloc o1).alloc o2).cell? ⟨1, 4, none⟩ = some (.int .i64 36524) := fun o1 o2 => (hT.below (((Below.refl _ _).alloc (Nat.le_refl _) o1).alloc (by simp) o2)).sp 4 (by decide)
  have c5 : ∀ o1 o2 : Obj, ((w.alloc o1).alloc o2).cell? ⟨1, 5, none⟩ = some (.int .i64 3) := fun o1 o2 => (hT.below (((Below.refl _ _).alloc (Nat.le_refl _) o1).alloc (by simp) o2)).sp 5 (by decide)
  have c6 : ∀ o1 o2 : Obj, ((w.alloc o1).alloc o2).cell? ⟨1, 6, none⟩ = some (.int .i64 4) := fun o1 o2 => (hT.below (((Below.refl _ _).alloc (Nat.le_refl _) o1).alloc (by simp) o2)).sp 6 (by decide)
  have c7 : ∀ o1 o2 : Obj, ((w.alloc o1).alloc o2).cell? ⟨1, 7, none⟩ = some (.int .i64 1461) := fun o1 o2 => (hT.below (((Below.refl _ _).alloc (Nat.le_refl _) o1).alloc (by simp) o2)).sp 7 (by decide)
  have c8 : ∀ o1 o2 : Obj, ((w.alloc o1).alloc o2).cell? ⟨1, 8, none⟩ = some (.int .i64 24) := fun o1 o2 => (hT.below (((Below.refl _ _).alloc (Nat.le_refl _) o1).alloc (by simp) o2)).sp 8 (by decide)
  have c9 : ∀ o1 o2 : Obj, ((w.alloc o1).alloc o2).cell? ⟨1, 9, none⟩ = some (.int .i64 1) := fun o1 o2 => (hT.below (((Below.refl _ _).alloc (Nat.le_refl _) o1).alloc (by simp) o2)).sp 9 (by decide)
  have c10 : ∀ o1 o2 : Obj, ((w.alloc o1).alloc o2).cell? ⟨1, 10, none⟩ = some (.int .i64 365) := fun o1 o2 => (hT.below (((Below.refl _ _).alloc (Nat.le_refl _) o1).alloc (by simp) o2)).sp 10 (by decide)
  have c11 : ∀ o1 o2 : Obj, ((w.alloc o1).alloc o2).cell? ⟨1, 11, none⟩ = some (.int .i64 3) := fun o1 o2 => (hT.below (((Below.refl _ _).alloc (Nat.le_refl _) o1).alloc (by simp) o2)).sp 11 (by decide)
  have hsz : 1 < w.heap.size := World.block_lt_of_cell? _ _ (hT.sp 0 (by decide))
  have e7 : (day + 1).tmod 7 = (day + 1) % 7 := Int.tmod_eq_emod_of_nonneg (by omega)
  have HT := Hid.mk' hT
  clear hT
  go_enter Tryd.func47, Tryd.ntmps47
  go_wp2
  have HR0 := Hid.mk' (heap_alloc_new w (.cells #[.int .i64 0, .int .i64 0, .int .i64 0, .int .i64 0, .int .i64 0, .int .i64 0] 55))
  generalize hD : w.heap.size + 1 = D
  have HD := Hid.mk' hD
  clear hD c0 c1 c2 c3 c4 c5 c6 c7 c8 c9 c10 c11
  go_loopg [0, 12] 4 (fun kx s0 s12 wr => ∃ j : Nat, s12 = .int .i64 j ∧ j ≤ 4 ∧ 4 - j ≤ kx ∧ s0 = .int .i64 (leftAt day j) ∧ Hid (wr.heap[D]? = some (.cells #[.int .i64 (yearAt day j), .int .i64 1, .int .i64 0, .int .i64 0, .int .i64 0, .int .i64 ((day + 1) % 7)] 55)) ∧ Hid (Below w.heap.size w wr) ∧ Hid (wr.heap[w.heap.size]? = some (.cells #[.int .i64 0, .int .i64 0, .int .i64 0, .int .i64 0, .int .i64 0, .int .i64 0] 55)))
  case atStart =>
    have hD1 := HD.out
    refine ⟨0, rfl, by decide, by decide, rfl, Hid.mk' ?_, Hid.mk' (((Below.refl _ _).alloc (Nat.le_refl _) _).alloc (by simp) _), Hid.mk' ?_⟩
    · rw [← hD1]
      have h := heap_alloc_new (w.alloc (.cells #[.int .i64 0, .int .i64 0, .int .i64 0, .int .i64 0, .int .i64 0, .int .i64 0] 55)) (.cells #[.int .i64 1, .int .i64 1, .int .i64 0, .int .i64 0, .int .i64 0, .int .i64 ((day + 1) % 7)] 55)
      rw [show (w.alloc (.cells #[.int .i64 0, .int .i64 0, .int .i64 0, .int .i64 0, .int .i64 0, .int .i64 0] 55)).heap.size = w.heap.size + 1 by simp] at h
      exact h
    · rw [heap_alloc_old _ _ (by simp)]
      exact HR0.out
  case round =>
    obtain ⟨j, rfl, hj, hkx, rfl, HC, HB, HR⟩ := hrel
    rcases (by omega : j = 0 ∨ j = 1 ∨ j = 2 ∨ j = 3 ∨ j = 4) with rfl | rfl | rfl | rfl | rfl
    · obtain ⟨X, hX⟩ : ∃ X, X = leftAt day 0 := ⟨_, rfl⟩
      obtain ⟨Y, hY⟩ : ∃ Y, Y = yearAt day 0 := ⟨_, rfl⟩
      have hS := span_step0 day h0 h1
      rw [← hX, ← hY] at hS
      rw [← hX]
      rw [← hY] at HC
      obtain ⟨hX0, hX1, hY0, hY1, hl, hy⟩ := hS
      have HL := Hid.mk' hl
      have HY := Hid.mk' hy
      have hlt : D < wr.heap.size := lt_of_row HC.out
      have hne : ¬ D = wr.heap.size := by omega
      have hne' : ¬ wr.heap.size = D := by omega
      have cY : ∀ o, (wr.alloc o).cell? ⟨D, 0, none⟩ = some (.int .i64 Y) := fun o => (cell_of_row _ _ _ _ _ _ ((heap_alloc_old wr o hlt).trans HC.out)).trans rfl
      have hfz := frozen_of_row wr D 0 _ 55 HC.out
      have hq : X.tdiv 146097 = X / 146097 := Int.tdiv_eq_ediv_of_nonneg hX0
      have hq0 : 0 ≤ X / 146097 ∧ X / 146097 ≤ 10100 := by omega
      have hix := idx0 wr
      clear hX hY hl hy
      generalize X / 146097 = q at *
      by_cases hm : q ≤ 24
      · have hmin : min q 24 = q := by omega
        rw [hmin] at HL HY
        clear hmin
        go_wp2
        go_quiet (fail)
        go_wp2
        go_roundg (4 - 1)
        case measure => omega
        case rel =>
          have hrow : ((wr.alloc (.cells #[.int .i64 400, .int .i64 146097, .int .i64 24] 108)).drewN nq).heap[D]? = some (.cells #[.int .i64 Y, .int .i64 1, .int .i64 0, .int .i64 0, .int .i64 0, .int .i64 ((day + 1) % 7)] 55) := (heap_alloc_old wr _ hlt).trans HC.out
          refine ⟨1, rfl, by omega, by omega, ?_, Hid.mk' ?_, Hid.mk' ?_, Hid.mk' ?_⟩
          · exact val_eq (by have := HL.out; omega)
          · refine (heap_setCell_row hrow 0 _).trans ?_
            exact row_eq (by have := HY.out; omega)
          · have hsz1 := HB.out.size
            have hD1 := HD.out
            exact (below_drewN (HB.out.alloc hsz1 _) nq).setCell (by show w.heap.size ≤ D; omega) _
          · have hD1 := HD.out
            have hsz1 := HB.out.size
            rw [heap_setCell_other _ _ (by show D ≠ w.heap.size; omega)]
            exact (heap_alloc_old wr _ (by omega)).trans HR.out
      · have hmin : min q 24 = 24 := by omega
        rw [hmin] at HL HY
        clear hmin
        go_wp2
        go_quiet (fail)
        go_wp2
        go_roundg (4 - 1)
        case measure => omega
        case rel =>
          have hrow : ((wr.alloc (.cells #[.int .i64 400, .int .i64 146097, .int .i64 24] 108)).drewN nq).heap[D]? = some (.cells #[.int .i64 Y, .int .i64 1, .int .i64 0, .int .i64 0, .int .i64 0, .int .i64 ((day + 1) % 7)] 55) := (heap_alloc_old wr _ hlt).trans HC.out
          refine ⟨1, rfl, by omega, by omega, ?_, Hid.mk' ?_, Hid.mk' ?_, Hid.mk' ?_⟩
          · exact val_eq (by have := HL.out; omega)
          · refine (heap_setCell_row hrow 0 _).trans ?_
            exact row_eq (by have := HY.out; omega)
          · have hsz1 := HB.out.size
            have hD1 := HD.out
            exact (below_drewN (HB.out.alloc hsz1 _) nq).setCell (by show w.heap.size ≤ D; omega) _
          · have hD1 := HD.out
            have hsz1 := HB.out.size
            rw [heap_setCell_other _ _ (by show D ≠ w.heap.size; omega)]
            exact (heap_alloc_old wr _ (by omega)).trans HR.out
    · obtain ⟨X, hX⟩ : ∃ X, X = leftAt day 1 := ⟨_, rfl⟩
      obtain ⟨Y, hY⟩ : ∃ Y, Y = yearAt day 1 := ⟨_, rfl⟩
      have hS := span_step1 day h0 h1
      rw [← hX, ← hY] at hS
      rw [← hX]
      rw [← hY] at HC
      obtain ⟨hX0, hX1, hY0, hY1, hl, hy⟩ := hS
      have HL := Hid.mk' hl
      have HY := Hid.mk' hy
      have hlt : D < wr.heap.size := lt_of_row HC.out
      have hne : ¬ D = wr.heap.size := by omega
      have hne' : ¬ wr.heap.size = D := by omega
      have cY : ∀ o, (wr.alloc o).cell? ⟨D, 0, none⟩ = some (.int .i64 Y) := fun o => (cell_of_row _ _ _ _ _ _ ((heap_alloc_old wr o hlt).trans HC.out)).trans rfl
      have hfz := frozen_of_row wr D 0 _ 55 HC.out
      have hq : X.tdiv 36524 = X / 36524 := Int.tdiv_eq_ediv_of_nonneg hX0
      have hq0 : 0 ≤ X / 36524 ∧ X / 36524 ≤ 10100 := by omega
      have hix := idx1 wr
      clear hX hY hl hy
      generalize X / 36524 = q at *
      by_cases hm : q ≤ 3
      · have hmin : min q 3 = q := by omega
        rw [hmin] at HL HY
        clear hmin
        go_wp2
        go_quiet (fail)
        go_wp2
        go_roundg (4 - 2)
        case measure => omega
        case rel =>
          have hrow : ((wr.alloc (.cells #[.int .i64 100, .int .i64 36524, .int .i64 3] 108)).drewN nq).heap[D]? = some (.cells #[.int .i64 Y, .int .i64 1, .int .i64 0, .int .i64 0, .int .i64 0, .int .i64 ((day + 1) % 7)] 55) := (heap_alloc_old wr _ hlt).trans HC.out
          refine ⟨2, rfl, by omega, by omega, ?_, Hid.mk' ?_, Hid.mk' ?_, Hid.mk' ?_⟩
          · exact val_eq (by have := HL.out; omega)
          · refine (heap_setCell_row hrow 0 _).trans ?_
            exact row_eq (by have := HY.out; omega)
          · have hsz1 := HB.out.size
            have hD1 := HD.out
            exact (below_drewN (HB.out.alloc hsz1 _) nq).setCell (by show w.heap.size ≤ D; omega) _
          · have hD1 := HD.out
            have hsz1 := HB.out.size
            rw [heap_setCell_other _ _ (by show D ≠ w.heap.size; omega)]
            exact (heap_alloc_old wr _ (by omega)).trans HR.out
      · have hmin : min q 3 = 3 := by omega
        rw [hmin] at HL HY
        clear hmin
        go_wp2
        go_quiet (fail)
        go_wp2
        go_roundg (4 - 2)
        case measure => omega
        case rel =>
          have hrow : ((wr.alloc (.cells #[.int .i64 100, .int .i64 36524, .int .i64 3] 108)).drewN nq).heap[D]? = some (.cells #[.int .i64 Y, .int .i64 1, .int .i64 0, .int .i64 0, .int .i64 0, .int .i64 ((day + 1) % 7)] 55) := (heap_alloc_old wr _ hlt).trans HC.out
          refine ⟨2, rfl, by omega, by omega, ?_, Hid.mk' ?_, Hid.mk' ?_, Hid.mk' ?_⟩
          · exact val_eq (by have := HL.out; omega)
          · refine (heap_setCell_row hrow 0 _).trans ?_
            exact row_eq (by have := HY.out; omega)
          · have hsz1 := HB.out.size
            have hD1 := HD.out
            exact (below_drewN (HB.out.alloc hsz1 _) nq).setCell (by show w.heap.size ≤ D; omega) _
          · have hD1 := HD.out
            have hsz1 := HB.out.size
            rw [heap_setCell_other _ _ (by show D ≠ w.heap.size; omega)]
            exact (heap_alloc_old wr _ (by omega)).trans HR.out
    · obtain ⟨X, hX⟩ : ∃ X, X = leftAt day 2 := ⟨_, rfl⟩
      obtain ⟨Y, hY⟩ : ∃ Y, Y = yearAt day 2 := ⟨_, rfl⟩
      have hS := span_step2 day h0 h1
      rw [← hX, ← hY] at hS
      rw [← hX]
      rw [← hY] at HC
      obtain ⟨hX0, hX1, hY0, hY1, hl, hy⟩ := hS
      have HL := Hid.mk' hl
      have HY := Hid.mk' hy
      have hlt : D < wr.heap.size := lt_of_row HC.out
      have hne : ¬ D = wr.heap.size := by omega
      have hne' : ¬ wr.heap.size = D := by omega
      have cY : ∀ o, (wr.alloc o).cell? ⟨D, 0, none⟩ = some (.int .i64 Y) := fun o => (cell_of_row _ _ _ _ _ _ ((heap_alloc_old wr o hlt).trans HC.out)).trans rfl
      have hfz := frozen_of_row wr D 0 _ 55 HC.out
      have hq : X.tdiv 1461 = X / 1461 := Int.tdiv_eq_ediv_of_nonneg hX0
      have hq0 : 0 ≤ X / 1461 ∧ X / 1461 ≤ 10100 := by omega
      have hix := idx2 wr
      clear hX hY hl hy
      generalize X / 1461 = q at *
      by_cases hm : q ≤ 24
      · have hmin : min q 24 = q := by omega
        rw [hmin] at HL HY
        clear hmin
        go_wp2
        go_quiet (fail)
        go_wp2
        go_roundg (4 - 3)
        case measure => omega
        case rel =>
          have hrow : ((wr.alloc (.cells #[.int .i64 4, .int .i64 1461, .int .i64 24] 108)).drewN nq).heap[D]? = some (.cells #[.int .i64 Y, .int .i64 1, .int .i64 0, .int .i64 0, .int .i64 0, .int .i64 ((day + 1) % 7)] 55) := (heap_alloc_old wr _ hlt).trans HC.out
          refine ⟨3, rfl, by omega, by omega, ?_, Hid.mk' ?_, Hid.mk' ?_, Hid.mk' ?_⟩
          · exact val_eq (by have := HL.out; omega)
          · refine (heap_setCell_row hrow 0 _).trans ?_
            exact row_eq (by have := HY.out; omega)
          · have hsz1 := HB.out.size
            have hD1 := HD.out
            exact (below_drewN (HB.out.alloc hsz1 _) nq).setCell (by show w.heap.size ≤ D; omega) _
          · have hD1 := HD.out
            have hsz1 := HB.out.size
            rw [heap_setCell_other _ _ (by show D ≠ w.heap.size; omega)]
            exact (heap_alloc_old wr _ (by omega)).trans HR.out
      · have hmin : min q 24 = 24 := by omega
        rw [hmin] at HL HY
        clear hmin
        go_wp2
        go_quiet (fail)
        go_wp2
        go_roundg (4 - 3)
        case measure => omega
        case rel =>
          have hrow : ((wr.alloc (.cells #[.int .i64 4, .int .i64 1461, .int .i64 24] 108)).drewN nq).heap[D]? = some (.cells #[.int .i64 Y, .int .i64 1, .int .i64 0, .int .i64 0, .int .i64 0, .int .i64 ((day + 1) % 7)] 55) := (heap_alloc_old wr _ hlt).trans HC.out
          refine ⟨3, rfl, by omega, by omega, ?_, Hid.mk' ?_, Hid.mk' ?_, Hid.mk' ?_⟩
          · exact val_eq (by have := HL.out; omega)
          · refine (heap_setCell_row hrow 0 _).trans ?_
            exact row_eq (by have := HY.out; omega)
          · have hsz1 := HB.out.size
            have hD1 := HD.out
            exact (below_drewN (HB.out.alloc hsz1 _) nq).setCell (by show w.heap.size ≤ D; omega) _
          · have hD1 := HD.out
            have hsz1 := HB.out.size
            rw [heap_setCell_other _ _ (by show D ≠ w.heap.size; omega)]
            exact (heap_alloc_old wr _ (by omega)).trans HR.out
    · obtain ⟨X, hX⟩ : ∃ X, X = leftAt day 3 := ⟨_, rfl⟩
      obtain ⟨Y, hY⟩ : ∃ Y, Y = yearAt day 3 := ⟨_, rfl⟩
      have hS := span_step3 day h0 h1
      rw [← hX, ← hY] at hS
      rw [← hX]
      rw [← hY] at HC
      obtain ⟨hX0, hX1, hY0, hY1, hl, hy⟩ := hS
      have HL := Hid.mk' hl
      have HY := Hid.mk' hy
      have hlt : D < wr.heap.size := lt_of_row HC.out
      have hne : ¬ D = wr.heap.size := by omega
      have hne' : ¬ wr.heap.size = D := by omega
      have cY : ∀ o, (wr.alloc o).cell? ⟨D, 0, none⟩ = some (.int .i64 Y) := fun o => (cell_of_row _ _ _ _ _ _ ((heap_alloc_old wr o hlt).trans HC.out)).trans rfl
      have hfz := frozen_of_row wr D 0 _ 55 HC.out
      have hq : X.tdiv 365 = X / 365 := Int.tdiv_eq_ediv_of_nonneg hX0
      have hq0 : 0 ≤ X / 365 ∧ X / 365 ≤ 10100 := by omega
      have hix := idx3 wr
      clear hX hY hl hy
      generalize X / 365 = q at *
      by_cases hm : q ≤ 3
      · have hmin : min q 3 = q := by omega
        rw [hmin] at HL HY
        clear hmin
        go_wp2
        go_quiet (fail)
        go_wp2
        go_roundg (4 - 4)
        case measure => omega
        case rel =>
          have hrow : ((wr.alloc (.cells #[.int .i64 1, .int .i64 365, .int .i64 3] 108)).drewN nq).heap[D]? = some (.cells #[.int .i64 Y, .int .i64 1, .int .i64 0, .int .i64 0, .int .i64 0, .int .i64 ((day + 1) % 7)] 55) := (heap_alloc_old wr _ hlt).trans HC.out
          refine ⟨4, rfl, by omega, by omega, ?_, Hid.mk' ?_, Hid.mk' ?_, Hid.mk' ?_⟩
          · exact val_eq (by have := HL.out; omega)
          · refine (heap_setCell_row hrow 0 _).trans ?_
            exact row_eq (by have := HY.out; omega)
          · have hsz1 := HB.out.size
            have hD1 := HD.out
            exact (below_drewN (HB.out.alloc hsz1 _) nq).setCell (by show w.heap.size ≤ D; omega) _
          · have hD1 := HD.out
            have hsz1 := HB.out.size
            rw [heap_setCell_other _ _ (by show D ≠ w.heap.size; omega)]
            exact (heap_alloc_old wr _ (by omega)).trans HR.out
      · have hmin : min q 3 = 3 := by omega
        rw [hmin] at HL HY
        clear hmin
        go_wp2
        go_quiet (fail)
        go_wp2
        go_roundg (4 - 4)
        case measure => omega
        case rel =>
          have hrow : ((wr.alloc (.cells #[.int .i64 1, .int .i64 365, .int .i64 3] 108)).drewN nq).heap[D]? = some (.cells #[.int .i64 Y, .int .i64 1, .int .i64 0, .int .i64 0, .int .i64 0, .int .i64 ((day + 1) % 7)] 55) := (heap_alloc_old wr _ hlt).trans HC.out
          refine ⟨4, rfl, by omega, by omega, ?_, Hid.mk' ?_, Hid.mk' ?_, Hid.mk' ?_⟩
          · exact val_eq (by have := HL.out; omega)
          · refine (heap_setCell_row hrow 0 _).trans ?_
            exact row_eq (by have := HY.out; omega)
          · have hsz1 := HB.out.size
            have hD1 := HD.out
            exact (below_drewN (HB.out.alloc hsz1 _) nq).setCell (by show w.heap.size ≤ D; omega) _
          · have hD1 := HD.out
            have hsz1 := HB.out.size
            rw [heap_setCell_other _ _ (by show D ≠ w.heap.size; omega)]
            exact (heap_alloc_old wr _ (by omega)).trans HR.out
    · have hE := span_end day h0 h1
      generalize leftAt day 4 = L at *
      generalize yearAt day 4 = y at *
      obtain ⟨hy0, hy1, hat, hL0, hL1⟩ := hE
      have hlp := lp_01 y
      have HAT := Hid.mk' hat
      have HL1 := Hid.mk' hL1
      have hLb : L ≤ 366 := by omega
      clear hat hL1 hlp HR0
      obtain ⟨W0, hW0⟩ : ∃ W0, W0 = wr := ⟨_, rfl⟩
      rw [← hW0] at HC HB HR ⊢
      clear hW0 wr
      go_wp2
      go_loopg [0] 12 (fun kx s0 wr => ∃ m : Int, 1 ≤ m ∧ m ≤ 12 ∧ (12 - m).toNat ≤ kx ∧ s0 = .int .i64 (L - cum y m) ∧ 0 ≤ L - cum y m ∧ Hid (wr.heap[D]? = some (.cells #[.int .i64 y, .int .i64 m, .int .i64 0, .int .i64 0, .int .i64 0, .int .i64 ((day + 1) % 7)] 55)) ∧ Hid (Below w.heap.size w wr) ∧ Hid (wr.heap[w.heap.size]? = some (.cells #[.int .i64 0, .int .i64 0, .int .i64 0, .int .i64 0, .int .i64 0, .int .i64 0] 55)))
      case atStart => exact ⟨1, by decide, by decide, by decide, by rw [cum_one, Int.sub_zero], by rw [cum_one]; omega, HC, HB, HR⟩
      case round =>
        obtain ⟨m, hm1, hm2, hkx2, rfl, hl0, HC2, HB2, HR2⟩ := hrel
        have hT2 := HT.out.below HB2.out
        have hcb := cum_bd y hm1 hm2
        have HS := Hid.mk' (cum_succ y hm1 hm2)
        have hmb := mdays_bd y hm1 hm2
        have hdays := days_any y m wr hT2
        have hlt : D < wr.heap.size := lt_of_row HC2.out
        have k0 : wr.cell? ⟨D, 0, none⟩ = some (.int .i64 y) := (cell_of_row _ _ _ _ _ _ HC2.out).trans rfl
        have k1 : wr.cell? ⟨D, 1, none⟩ = some (.int .i64 m) := (cell_of_row _ _ _ _ _ _ HC2.out).trans rfl
        have k2 : wr.cell? ⟨D, 2, none⟩ = some (.int .i64 0) := (cell_of_row _ _ _ _ _ _ HC2.out).trans rfl
        have k3 : wr.cell? ⟨D, 3, none⟩ = some (.int .i64 0) := (cell_of_row _ _ _ _ _ _ HC2.out).trans rfl
        have k4 : wr.cell? ⟨D, 4, none⟩ = some (.int .i64 0) := (cell_of_row _ _ _ _ _ _ HC2.out).trans rfl
        have k5 : wr.cell? ⟨D, 5, none⟩ = some (.int .i64 ((day + 1) % 7)) := (cell_of_row _ _ _ _ _ _ HC2.out).trans rfl
        have f1 := frozen_of_row wr D 1 _ 55 HC2.out
        have f2 := frozen_of_row wr D 2 _ 55 HC2.out
        have r0 : wr.cell? ⟨w.heap.size, 0, none⟩ = some (.int .i64 0) := (cell_of_row _ _ _ _ _ _ HR2.out).trans rfl
        have g0 := frozen_of_row wr w.heap.size 0 _ 55 HR2.out
        have r1 : wr.cell? ⟨w.heap.size, 1, none⟩ = some (.int .i64 0) := (cell_of_row _ _ _ _ _ _ HR2.out).trans rfl
        have g1 := frozen_of_row wr w.heap.size 1 _ 55 HR2.out
        have r2 : wr.cell? ⟨w.heap.size, 2, none⟩ = some (.int .i64 0) := (cell_of_row _ _ _ _ _ _ HR2.out).trans rfl
        have g2 := frozen_of_row wr w.heap.size 2 _ 55 HR2.out
        have r3 : wr.cell? ⟨w.heap.size, 3, none⟩ = some (.int .i64 0) := (cell_of_row _ _ _ _ _ _ HR2.out).trans rfl
        have g3 := frozen_of_row wr w.heap.size 3 _ 55 HR2.out
        have r4 : wr.cell? ⟨w.heap.size, 4, none⟩ = some (.int .i64 0) := (cell_of_row _ _ _ _ _ _ HR2.out).trans rfl
        have g4 := frozen_of_row wr w.heap.size 4 _ 55 HR2.out
        have r5 : wr.cell? ⟨w.heap.size, 5, none⟩ = some (.int .i64 0) := (cell_of_row _ _ _ _ _ _ HR2.out).trans rfl
        have g5 := frozen_of_row wr w.heap.size 5 _ 55 HR2.out
        have hDR : ¬ D = w.heap.size := by have := HD.out; omega
        have hDR' : ¬ w.heap.size = D := by have := HD.out; omega
        obtain ⟨hcb0, hcb1, hcb2⟩ := hcb
        clear hT2
        have HCM := Hid.mk' hcb2
        clear hcb2
        obtain ⟨l, hl⟩ : ∃ l, l = L - cum y m := ⟨_, rfl⟩
        rw [← hl] at hl0 ⊢
        have HLL := Hid.mk' hl
        have hlb : l ≤ 366 := by omega
        clear hl hcb0 hcb1
        by_cases hge : mdays y m ≤ l
        · go_wp2_with (go_at_call 62; refine hdays.mono ?_; rintro e w' ⟨rfl, rfl⟩)
          go_roundg (12 - (m + 1)).toNat
          case measure =>
            have h1 := HLL.out; have h2 := HL1.out; have h3 := HS.out
            have h4 : m < 12 := Int.not_le.1 fun hge2 => by
              obtain rfl : m = 12 := by omega
              have h5 : cum y (12 + 1) = 365 + lp y := cum_13 y
              omega
            omega
          case rel =>
            have h1 := HLL.out; have h2 := HL1.out; have h3 := HS.out
            have h4 : m < 12 := Int.not_le.1 fun hge2 => by
              obtain rfl : m = 12 := by omega
              have h5 : cum y (12 + 1) = 365 + lp y := cum_13 y
              omega
            refine ⟨m + 1, by omega, by omega, by omega, val_eq (by omega), by omega, Hid.mk' (heap_setCell_row HC2.out 1 _), Hid.mk' (HB2.out.setCell (by show w.heap.size ≤ D; have := HD.out; omega) _), Hid.mk' ((heap_setCell_other _ _ hDR).trans HR2.out)⟩
        · go_wp2_with (go_at_call 62; refine hdays.mono ?_; rintro e w' ⟨rfl, rfl⟩)
          have HQ := heap_setCell_row (heap_setCell_row (heap_setCell_row (heap_setCell_row (heap_setCell_row (heap_setCell_row ((heap_setCell_other (w := w') ⟨D, 2, none⟩ (.int .i64 (l + 1)) hDR).trans HR2.out) 0 (.int .i64 y)) 1 (.int .i64 m)) 2 (.int .i64 (l + 1))) 3 (.int .i64 0)) 4 (.int .i64 0)) 5 (.int .i64 ((day + 1) % 7))
          refine bodyPost_ret (results_cell_row rfl _ _ w.heap.size 55 #[.int .i64 y, .int .i64 m, .int .i64 (l + 1), .int .i64 0, .int .i64 0, .int .i64 ((day + 1) % 7)] (0, 0) _ rfl HQ Tryd.underlying55 rfl info23) rfl ?_
          refine ⟨⟨y, m, l + 1, rfl, ⟨hy0, hm1, hm2, by omega, by omega, ?_⟩⟩, ?_⟩
          · have h1 := HLL.out; have h2 := HAT.out; omega
          · have hD1 := HD.out
            exact ((((((HB2.out.setCell (p := ⟨D, 2, none⟩) (by show w.heap.size ≤ D; omega) _).setCell (Nat.le_refl _) _).setCell (Nat.le_refl _) _).setCell (Nat.le_refl _) _).setCell (Nat.le_refl _) _).setCell (Nat.le_refl _) _).setCell (Nat.le_refl _) _
end Go.Proofs.YtdojpnhjnhecmaaDoor
