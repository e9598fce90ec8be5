/- What the leaf functions do: leap years, months' days, remainders, the days ahead of a year. -/
import Derived.Test.YtdojpnhjnhecmaaDoorCM
import Derived.WalkSpells
import Derived.WalkLawsBesides
import Derived.Handy
import Derived.Deep.RegionLaw
import Derived.BigQuiet
import Derived.Lib.TrailingZeros
namespace Go.Proofs.YtdojpnhjnhecmaaDoor
open Go Go.RowKit

theorem ret_int {k : IntKind} {a b : Int} (h : a = b) : Ending.returned (.int k a) = .returned (.int k b) := by rw [h]
theorem ret_bool {a b : Bool} (h : a = b) : Ending.returned (.bool a) = .returned (.bool b) := by rw [h]
theorem tmod_zero (y : Int) (n : Int) : y.tmod n = 0 ↔ y % n = 0 := by rw [← Int.dvd_iff_tmod_eq_zero, Int.dvd_iff_emod_eq_zero]
/-- The tables of packages cal, cron and math/bits. -/
structure HasT (w : World) : Prop where
  md : ∀ j, j < 12 → w.cell? ⟨2, j, none⟩ = some (.int .i64 ([31, 28, 31, 30, 31, 30, 31, 31, 30, 31, 30, 31].getD j 0))
  sp : ∀ j, j < 12 → w.cell? ⟨1, j, none⟩ = some (.int .i64 ([400, 146097, 24, 100, 36524, 3, 4, 1461, 24, 1, 365, 3].getD j 0))
  bd : ∀ j, j < 10 → w.cell? ⟨0, j, none⟩ = some (.int .i64 ([0, 59, 0, 23, 1, 31, 1, 12, 0, 6].getD j 0))
  db : ∀ j, j < 64 → w.cell? ⟨3, j, none⟩ = some (.int .u8 (Lib.deBruijn64tab.getD j 0))
theorem HasT.keep {w w' : World} (h : HasT w) (hb : ∀ b j v, b < 4 → w.cell? ⟨b, j, none⟩ = some v → w'.cell? ⟨b, j, none⟩ = some v) : HasT w' :=
  ⟨fun j hj => hb _ _ _ (by decide) (h.md j hj), fun j hj => hb _ _ _ (by decide) (h.sp j hj), fun j hj => hb _ _ _ (by decide) (h.bd j hj), fun j hj => hb _ _ _ (by decide) (h.db j hj)⟩
theorem HasT.below {w w' : World} (h : HasT w) (hb : Below w.heap.size w w') : HasT w' :=
  h.keep fun b j v _ hv => by rw [← hv]; exact hb.cell (World.block_lt_of_cell? _ _ hv)
theorem HasT.size {w : World} (h : HasT w) : 4 ≤ w.heap.size := World.block_lt_of_cell? _ _ (h.db 0 (by decide))

set_option maxHeartbeats 400000 in
theorem leap_any (y : Int) (w : World) : Calls Tryd.prog 72 #[.int .i64 y] w fun e w' => e = .returned (.bool (leapP y)) ∧ w' = w := by
  have t4 := tmod_zero y 4
  have t100 := tmod_zero y 100
  have t400 := tmod_zero y 400
  by_cases h4 : y.tmod 4 = 0
  · by_cases h1 : y.tmod 100 = 0
    · by_cases hq : y.tmod 400 = 0
      · have HL : Hid (leapP y = true) := by show _ = _; simp [leapP]; omega
        clear t4 t100 t400
        go_enter Tryd.func72, Tryd.ntmps72
        go_wp2
        go_ret
        exact ⟨ret_bool HL.out.symm, rfl⟩
      · have HL : Hid (leapP y = false) := by show _ = _; simp [leapP]; omega
        clear t4 t100 t400
        go_enter Tryd.func72, Tryd.ntmps72
        go_wp2
        go_ret
        exact ⟨ret_bool (by rw [HL.out]; simpa using hq), rfl⟩
    · have HL : Hid (leapP y = true) := by show _ = _; simp [leapP]; omega
      clear t4 t100 t400
      go_enter Tryd.func72, Tryd.ntmps72
      go_wp2
      go_ret
      exact ⟨ret_bool HL.out.symm, rfl⟩
  · have hq : ¬ y.tmod 400 = 0 := by omega
    have HL : Hid (leapP y = false) := by show _ = _; simp [leapP]; omega
    clear t4 t100 t400
    go_enter Tryd.func72, Tryd.ntmps72
    go_wp2
    go_ret
    exact ⟨ret_bool (by rw [HL.out]; simpa using hq), rfl⟩

set_option maxHeartbeats 400000 in
theorem rleap_any (y : Int) (w : World) : Calls Tryd.prog 74 #[.int .i64 y] w fun e w' => e = .returned (.bool (leapP y)) ∧ w' = w := by
  have t4 := tmod_zero y 4
  have t100 := tmod_zero y 100
  have t400 := tmod_zero y 400
  by_cases h4 : y.tmod 4 = 0
  · by_cases h1 : y.tmod 100 = 0
    · by_cases hq : y.tmod 400 = 0
      · have HL : Hid (leapP y = true) := by show _ = _; simp [leapP]; omega
        clear t4 t100 t400
        go_enter Tryd.func74, Tryd.ntmps74
        go_wp2
        go_ret
        exact ⟨ret_bool HL.out.symm, rfl⟩
      · have HL : Hid (leapP y = false) := by show _ = _; simp [leapP]; omega
        clear t4 t100 t400
        go_enter Tryd.func74, Tryd.ntmps74
        go_wp2
        go_ret
        exact ⟨ret_bool (by rw [HL.out]; simpa using hq), rfl⟩
    · have HL : Hid (leapP y = true) := by show _ = _; simp [leapP]; omega
      clear t4 t100 t400
      go_enter Tryd.func74, Tryd.ntmps74
      go_wp2
      go_ret
      exact ⟨ret_bool HL.out.symm, rfl⟩
  · have hq : ¬ y.tmod 400 = 0 := by omega
    have HL : Hid (leapP y = false) := by show _ = _; simp [leapP]; omega
    clear t4 t100 t400
    go_enter Tryd.func74, Tryd.ntmps74
    go_wp2
    go_ret
    exact ⟨ret_bool HL.out.symm, rfl⟩

theorem lp_leap (y : Int) : lp y = if leapP y then 1 else 0 := by unfold lp leapP; split <;> simp_all

set_option maxHeartbeats 400000 in
theorem rdays_any (y m : Int) (w : World) : Calls Tryd.prog 65 #[.int .i64 y, .int .i64 m] w fun e w' => e = .returned (.int .i64 (mdays y m)) ∧ w' = w := by
  by_cases h1 : m < 1
  · have HL : Hid (mdays y m = 0) := mdays_no y (.inl h1)
    have e4 : (m == 4) = false := by simp; omega
    have e6 : (m == 6) = false := by simp; omega
    have e9 : (m == 9) = false := by simp; omega
    have e11 : (m == 11) = false := by simp; omega
    have e2 : (m == 2) = false := by simp; omega
    go_enter Tryd.func65, Tryd.ntmps65
    go_wp2
    go_ret
    exact ⟨ret_int HL.out.symm, rfl⟩
  · by_cases h2 : 12 < m
    · have HL : Hid (mdays y m = 0) := mdays_no y (.inr h2)
      have e4 : (m == 4) = false := by simp; omega
      have e6 : (m == 6) = false := by simp; omega
      have e9 : (m == 9) = false := by simp; omega
      have e11 : (m == 11) = false := by simp; omega
      have e2 : (m == 2) = false := by simp; omega
      go_enter Tryd.func65, Tryd.ntmps65
      go_wp2
      go_ret
      exact ⟨ret_int HL.out.symm, rfl⟩
    · rcases m12 (m := m) (by omega) (by omega) with rfl | rfl | rfl | rfl | rfl | rfl | rfl | rfl | rfl | rfl | rfl | rfl
      · go_enter Tryd.func65, Tryd.ntmps65; go_wp2; go_ret; exact ⟨ret_int rfl, rfl⟩
      · have HL : Hid (mdays y 2 = 28 + lp y) := rfl
        have hlp := lp_leap y
        cases hl : leapP y with
        | true =>
          rw [hl] at hlp
          have HL : Hid (mdays y 2 = 29) := by show _ = _; rw [HL.out, hlp]; rfl
          clear hlp
          go_enter Tryd.func65, Tryd.ntmps65
          go_wp2_with (go_at_call 74; refine (rleap_any y _).mono ?_; rw [hl]; rintro e w' ⟨rfl, rfl⟩)
          go_ret
          exact ⟨ret_int HL.out.symm, rfl⟩
        | false =>
          rw [hl] at hlp
          have HL : Hid (mdays y 2 = 28) := by show _ = _; rw [HL.out, hlp]; rfl
          clear hlp
          go_enter Tryd.func65, Tryd.ntmps65
          go_wp2_with (go_at_call 74; refine (rleap_any y _).mono ?_; rw [hl]; rintro e w' ⟨rfl, rfl⟩)
          go_ret
          exact ⟨ret_int HL.out.symm, rfl⟩
      · go_enter Tryd.func65, Tryd.ntmps65; go_wp2; go_ret; exact ⟨ret_int rfl, rfl⟩
      · go_enter Tryd.func65, Tryd.ntmps65; go_wp2; go_ret; exact ⟨ret_int rfl, rfl⟩
      · go_enter Tryd.func65, Tryd.ntmps65; go_wp2; go_ret; exact ⟨ret_int rfl, rfl⟩
      · go_enter Tryd.func65, Tryd.ntmps65; go_wp2; go_ret; exact ⟨ret_int rfl, rfl⟩
      · go_enter Tryd.func65, Tryd.ntmps65; go_wp2; go_ret; exact ⟨ret_int rfl, rfl⟩
      · go_enter Tryd.func65, Tryd.ntmps65; go_wp2; go_ret; exact ⟨ret_int rfl, rfl⟩
      · go_enter Tryd.func65, Tryd.ntmps65; go_wp2; go_ret; exact ⟨ret_int rfl, rfl⟩
      · go_enter Tryd.func65, Tryd.ntmps65; go_wp2; go_ret; exact ⟨ret_int rfl, rfl⟩
      · go_enter Tryd.func65, Tryd.ntmps65; go_wp2; go_ret; exact ⟨ret_int rfl, rfl⟩
      · go_enter Tryd.func65, Tryd.ntmps65; go_wp2; go_ret; exact ⟨ret_int rfl, rfl⟩

set_option maxHeartbeats 400000 in
theorem days_any (y m : Int) (w : World) (hT : HasT w) : Calls Tryd.prog 62 #[.int .i64 y, .int .i64 m] w fun e w' => e = .returned (.int .i64 (mdays y m)) ∧ w' = w := by
  by_cases h1 : m < 1
  · have HL : Hid (mdays y m = 0) := mdays_no y (.inl h1)
    go_enter Tryd.func62, Tryd.ntmps62
    go_wp2
    go_ret
    exact ⟨ret_int HL.out.symm, rfl⟩
  · by_cases h2 : 12 < m
    · have HL : Hid (mdays y m = 0) := mdays_no y (.inr h2)
      go_enter Tryd.func62, Tryd.ntmps62
      go_wp2
      go_ret
      exact ⟨ret_int HL.out.symm, rfl⟩
    · have c0 := hT.md 0 (by decide)
      have c1 := hT.md 1 (by decide)
      have c2 := hT.md 2 (by decide)
      have c3 := hT.md 3 (by decide)
      have c4 := hT.md 4 (by decide)
      have c5 := hT.md 5 (by decide)
      have c6 := hT.md 6 (by decide)
      have c7 := hT.md 7 (by decide)
      have c8 := hT.md 8 (by decide)
      have c9 := hT.md 9 (by decide)
      have c10 := hT.md 10 (by decide)
      have c11 := hT.md 11 (by decide)
      rcases m12 (m := m) (by omega) (by omega) with rfl | rfl | rfl | rfl | rfl | rfl | rfl | rfl | rfl | rfl | rfl | rfl
      · go_enter Tryd.func62, Tryd.ntmps62; go_wp2; go_ret; exact ⟨ret_int rfl, rfl⟩
      · have HL : Hid (mdays y 2 = 28 + lp y) := rfl
        have hlp := lp_leap y
        cases hl : leapP y with
        | true =>
          rw [hl] at hlp
          have HL : Hid (mdays y 2 = 29) := by show _ = _; rw [HL.out, hlp]; rfl
          clear hlp
          go_enter Tryd.func62, Tryd.ntmps62
          go_wp2_with (go_at_call 72; refine (leap_any y _).mono ?_; rw [hl]; rintro e w' ⟨rfl, rfl⟩)
          go_ret
          exact ⟨ret_int HL.out.symm, rfl⟩
        | false =>
          rw [hl] at hlp
          have HL : Hid (mdays y 2 = 28) := by show _ = _; rw [HL.out, hlp]; rfl
          clear hlp
          go_enter Tryd.func62, Tryd.ntmps62
          go_wp2_with (go_at_call 72; refine (leap_any y _).mono ?_; rw [hl]; rintro e w' ⟨rfl, rfl⟩)
          go_ret
          exact ⟨ret_int HL.out.symm, rfl⟩
      · go_enter Tryd.func62, Tryd.ntmps62; go_wp2; go_ret; exact ⟨ret_int rfl, rfl⟩
      · go_enter Tryd.func62, Tryd.ntmps62; go_wp2; go_ret; exact ⟨ret_int rfl, rfl⟩
      · go_enter Tryd.func62, Tryd.ntmps62; go_wp2; go_ret; exact ⟨ret_int rfl, rfl⟩
      · go_enter Tryd.func62, Tryd.ntmps62; go_wp2; go_ret; exact ⟨ret_int rfl, rfl⟩
      · go_enter Tryd.func62, Tryd.ntmps62; go_wp2; go_ret; exact ⟨ret_int rfl, rfl⟩
      · go_enter Tryd.func62, Tryd.ntmps62; go_wp2; go_ret; exact ⟨ret_int rfl, rfl⟩
      · go_enter Tryd.func62, Tryd.ntmps62; go_wp2; go_ret; exact ⟨ret_int rfl, rfl⟩
      · go_enter Tryd.func62, Tryd.ntmps62; go_wp2; go_ret; exact ⟨ret_int rfl, rfl⟩
      · go_enter Tryd.func62, Tryd.ntmps62; go_wp2; go_ret; exact ⟨ret_int rfl, rfl⟩
      · go_enter Tryd.func62, Tryd.ntmps62; go_wp2; go_ret; exact ⟨ret_int rfl, rfl⟩

def withinF (a n : Int) : Int := if a.tmod n < 0 then a.tmod n + n else a.tmod n
theorem withinF_bd (a : Int) (n : Int) (hn : 0 < n) : 0 ≤ withinF a n ∧ withinF a n < n := by
  have h1 := Int.lt_tmod_of_pos a (b := n) (by omega)
  have h2 := Int.tmod_lt_of_pos a (b := n) (by omega)
  unfold withinF
  split <;> omega
set_option maxHeartbeats 400000 in
theorem within_any (a n : Int) (w : World) (hn : 0 < n) (hm : n ≤ 1000000000000000) :
    Calls Tryd.prog 22 #[.int .i64 a, .int .i64 n] w fun e w' => e = .returned (.int .i64 (withinF a n)) ∧ w' = w := by
  have h1 := Int.lt_tmod_of_pos a (b := n) (by omega)
  have h2 := Int.tmod_lt_of_pos a (b := n) (by omega)
  have hn0 : (n == 0) = false := by simp; omega
  by_cases h : a.tmod n < 0
  · have HW : Hid (withinF a n = a.tmod n + n) := by show _ = _; rw [withinF, if_pos h]
    go_enter Tryd.func22, Tryd.ntmps22
    go_wp2
    go_ret
    exact ⟨ret_int HW.out.symm, rfl⟩
  · have HW : Hid (withinF a n = a.tmod n) := by show _ = _; rw [withinF, if_neg h]
    go_enter Tryd.func22, Tryd.ntmps22
    go_wp2
    go_ret
    exact ⟨ret_int HW.out.symm, rfl⟩
def inB (n a b : Int) : Bool := decide (a ≤ n ∧ n ≤ b)
set_option maxHeartbeats 400000 in
theorem inside_any (n a b : Int) (w : World) : Calls Tryd.prog 67 #[.int .i64 n, .int .i64 a, .int .i64 b] w fun e w' => e = .returned (.bool (inB n a b)) ∧ w' = w := by
  by_cases h1 : a ≤ n
  · by_cases h2 : n ≤ b
    · have HL : Hid (inB n a b = true) := by show _ = _; simp [inB, h1, h2]
      go_enter Tryd.func67, Tryd.ntmps67
      go_wp2
      go_ret
      exact ⟨ret_bool HL.out.symm, rfl⟩
    · have HL : Hid (inB n a b = false) := by show _ = _; simp [inB, h2]
      go_enter Tryd.func67, Tryd.ntmps67
      go_wp2
      go_ret
      exact ⟨ret_bool HL.out.symm, rfl⟩
  · have HL : Hid (inB n a b = false) := by show _ = _; simp [inB, h1]
    go_enter Tryd.func67, Tryd.ntmps67
    go_wp2
    go_ret
    exact ⟨ret_bool HL.out.symm, rfl⟩
set_option maxHeartbeats 400000 in
theorem before_any (y : Int) (w : World) (h1 : 1 ≤ y) (h2 : y ≤ 100000) : Calls Tryd.prog 64 #[.int .i64 y] w fun e w' => e = .returned (.int .i64 (bef y)) ∧ w' = w := by
  have q1 : (y - 1).tdiv 4 = (y - 1) / 4 := Int.tdiv_eq_ediv_of_nonneg (by omega)
  have q2 : (y - 1).tdiv 100 = (y - 1) / 100 := Int.tdiv_eq_ediv_of_nonneg (by omega)
  have q3 : (y - 1).tdiv 400 = (y - 1) / 400 := Int.tdiv_eq_ediv_of_nonneg (by omega)
  have HB : Hid (bef y = 365 * (y - 1) + (y - 1) / 4 - (y - 1) / 100 + (y - 1) / 400) := rfl
  go_enter Tryd.func64, Tryd.ntmps64
  go_wp2
  go_ret
  exact ⟨ret_int HB.out.symm, rfl⟩
end Go.Proofs.YtdojpnhjnhecmaaDoor
