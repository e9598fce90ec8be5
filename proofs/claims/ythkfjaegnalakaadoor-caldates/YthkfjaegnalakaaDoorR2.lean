/- The document's Minute. -/
import Derived.Test.YthkfjaegnalakaaDoorC4
namespace Go.Proofs.YthkfjaegnalakaaDoor
open Go Go.RowKit
set_option maxHeartbeats 1000000 in
theorem rmin_no0 (y m d h mi wd : Int) (w : World)  (b0 : decide (y < 1) = true) :
    Calls Tryd.prog 12 #[dateV y m d h mi wd] w fun e w' => e = .returned (.tuple #[.int .i64 0, .int .i64 1]) ∧ Below w.heap.size w w' := by
  go_enter Tryd.func12, Tryd.ntmps12
  go_wp2
  go_quiet (fail)
  go_wp2
  go_ret2
  exact ⟨rfl, below_drewN ((Below.refl _ _).alloc (Nat.le_refl _) _) _⟩
set_option maxHeartbeats 1000000 in
theorem rmin_no1 (y m d h mi wd : Int) (w : World) (b0 : decide (y < 1) = false) (b1 : decide (9999 < y) = true) :
    Calls Tryd.prog 12 #[dateV y m d h mi wd] w fun e w' => e = .returned (.tuple #[.int .i64 0, .int .i64 1]) ∧ Below w.heap.size w w' := by
  go_enter Tryd.func12, Tryd.ntmps12
  go_wp2
  go_quiet (fail)
  go_wp2
  go_ret2
  exact ⟨rfl, below_drewN ((Below.refl _ _).alloc (Nat.le_refl _) _) _⟩
set_option maxHeartbeats 1000000 in
theorem rmin_no2 (y m d h mi wd : Int) (w : World) (b0 : decide (y < 1) = false) (b1 : decide (9999 < y) = false) (b2 : decide (m < 1) = true) :
    Calls Tryd.prog 12 #[dateV y m d h mi wd] w fun e w' => e = .returned (.tuple #[.int .i64 0, .int .i64 1]) ∧ Below w.heap.size w w' := by
  go_enter Tryd.func12, Tryd.ntmps12
  go_wp2
  go_quiet (fail)
  go_wp2
  go_ret2
  exact ⟨rfl, below_drewN ((Below.refl _ _).alloc (Nat.le_refl _) _) _⟩
set_option maxHeartbeats 1000000 in
theorem rmin_no3 (y m d h mi wd : Int) (w : World) (b0 : decide (y < 1) = false) (b1 : decide (9999 < y) = false) (b2 : decide (m < 1) = false) (b3 : decide (12 < m) = true) :
    Calls Tryd.prog 12 #[dateV y m d h mi wd] w fun e w' => e = .returned (.tuple #[.int .i64 0, .int .i64 1]) ∧ Below w.heap.size w w' := by
  go_enter Tryd.func12, Tryd.ntmps12
  go_wp2
  go_quiet (fail)
  go_wp2
  go_ret2
  exact ⟨rfl, below_drewN ((Below.refl _ _).alloc (Nat.le_refl _) _) _⟩
set_option maxHeartbeats 1000000 in
theorem rmin_no4 (y m d h mi wd : Int) (w : World) (b0 : decide (y < 1) = false) (b1 : decide (9999 < y) = false) (b2 : decide (m < 1) = false) (b3 : decide (12 < m) = false) (b4 : decide (d < 1) = true) :
    Calls Tryd.prog 12 #[dateV y m d h mi wd] w fun e w' => e = .returned (.tuple #[.int .i64 0, .int .i64 1]) ∧ Below w.heap.size w w' := by
  go_enter Tryd.func12, Tryd.ntmps12
  go_wp2
  go_quiet (fail)
  go_wp2
  go_ret2
  exact ⟨rfl, below_drewN ((Below.refl _ _).alloc (Nat.le_refl _) _) _⟩
set_option maxHeartbeats 1000000 in
theorem rmin_no5 (y m d h mi wd : Int) (w : World) (b0 : decide (y < 1) = false) (b1 : decide (9999 < y) = false) (b2 : decide (m < 1) = false) (b3 : decide (12 < m) = false) (b4 : decide (d < 1) = false) (b5 : decide (mdays y m < d) = true) :
    Calls Tryd.prog 12 #[dateV y m d h mi wd] w fun e w' => e = .returned (.tuple #[.int .i64 0, .int .i64 1]) ∧ Below w.heap.size w w' := by
  have hrd := fun W => rdays_any y m W
  go_enter Tryd.func12, Tryd.ntmps12
  go_wp2
  go_quiet (exact Calls.quiet_of_same (hrd _))
  go_wp2
  go_ret2
  exact ⟨rfl, below_drewN ((Below.refl _ _).alloc (Nat.le_refl _) _) _⟩
set_option maxHeartbeats 1000000 in
theorem rmin_no6 (y m d h mi wd : Int) (w : World) (b0 : decide (y < 1) = false) (b1 : decide (9999 < y) = false) (b2 : decide (m < 1) = false) (b3 : decide (12 < m) = false) (b4 : decide (d < 1) = false) (b5 : decide (mdays y m < d) = false) (b6 : decide (h < 0) = true) :
    Calls Tryd.prog 12 #[dateV y m d h mi wd] w fun e w' => e = .returned (.tuple #[.int .i64 0, .int .i64 1]) ∧ Below w.heap.size w w' := by
  have hrd := fun W => rdays_any y m W
  go_enter Tryd.func12, Tryd.ntmps12
  go_wp2
  go_quiet (exact Calls.quiet_of_same (hrd _))
  go_wp2
  go_ret2
  exact ⟨rfl, below_drewN ((Below.refl _ _).alloc (Nat.le_refl _) _) _⟩
set_option maxHeartbeats 1000000 in
theorem rmin_no7 (y m d h mi wd : Int) (w : World) (b0 : decide (y < 1) = false) (b1 : decide (9999 < y) = false) (b2 : decide (m < 1) = false) (b3 : decide (12 < m) = false) (b4 : decide (d < 1) = false) (b5 : decide (mdays y m < d) = false) (b6 : decide (h < 0) = false) (b7 : decide (23 < h) = true) :
    Calls Tryd.prog 12 #[dateV y m d h mi wd] w fun e w' => e = .returned (.tuple #[.int .i64 0, .int .i64 1]) ∧ Below w.heap.size w w' := by
  have hrd := fun W => rdays_any y m W
  go_enter Tryd.func12, Tryd.ntmps12
  go_wp2
  go_quiet (exact Calls.quiet_of_same (hrd _))
  go_wp2
  go_ret2
  exact ⟨rfl, below_drewN ((Below.refl _ _).alloc (Nat.le_refl _) _) _⟩
set_option maxHeartbeats 1000000 in
theorem rmin_no8 (y m d h mi wd : Int) (w : World) (b0 : decide (y < 1) = false) (b1 : decide (9999 < y) = false) (b2 : decide (m < 1) = false) (b3 : decide (12 < m) = false) (b4 : decide (d < 1) = false) (b5 : decide (mdays y m < d) = false) (b6 : decide (h < 0) = false) (b7 : decide (23 < h) = false) (b8 : decide (mi < 0) = true) :
    Calls Tryd.prog 12 #[dateV y m d h mi wd] w fun e w' => e = .returned (.tuple #[.int .i64 0, .int .i64 1]) ∧ Below w.heap.size w w' := by
  have hrd := fun W => rdays_any y m W
  go_enter Tryd.func12, Tryd.ntmps12
  go_wp2
  go_quiet (exact Calls.quiet_of_same (hrd _))
  go_wp2
  go_ret2
  exact ⟨rfl, below_drewN ((Below.refl _ _).alloc (Nat.le_refl _) _) _⟩
set_option maxHeartbeats 1000000 in
theorem rmin_no9 (y m d h mi wd : Int) (w : World) (b0 : decide (y < 1) = false) (b1 : decide (9999 < y) = false) (b2 : decide (m < 1) = false) (b3 : decide (12 < m) = false) (b4 : decide (d < 1) = false) (b5 : decide (mdays y m < d) = false) (b6 : decide (h < 0) = false) (b7 : decide (23 < h) = false) (b8 : decide (mi < 0) = false) (b9 : decide (59 < mi) = true) :
    Calls Tryd.prog 12 #[dateV y m d h mi wd] w fun e w' => e = .returned (.tuple #[.int .i64 0, .int .i64 1]) ∧ Below w.heap.size w w' := by
  have hrd := fun W => rdays_any y m W
  go_enter Tryd.func12, Tryd.ntmps12
  go_wp2
  go_quiet (exact Calls.quiet_of_same (hrd _))
  go_wp2
  go_ret2
  exact ⟨rfl, below_drewN ((Below.refl _ _).alloc (Nat.le_refl _) _) _⟩
theorem rmin_no (y m d h mi wd : Int) (w : World) (hf : fitsB y m d h mi = false) :
    Calls Tryd.prog 12 #[dateV y m d h mi wd] w fun e w' => e = .returned (.tuple #[.int .i64 0, .int .i64 1]) ∧ Below w.heap.size w w' := by
  by_cases c0 : y < 1
  · exact rmin_no0 y m d h mi wd w  (decide_eq_true c0)
  by_cases c1 : 9999 < y
  · exact rmin_no1 y m d h mi wd w (decide_eq_false c0) (decide_eq_true c1)
  by_cases c2 : m < 1
  · exact rmin_no2 y m d h mi wd w (decide_eq_false c0) (decide_eq_false c1) (decide_eq_true c2)
  by_cases c3 : 12 < m
  · exact rmin_no3 y m d h mi wd w (decide_eq_false c0) (decide_eq_false c1) (decide_eq_false c2) (decide_eq_true c3)
  by_cases c4 : d < 1
  · exact rmin_no4 y m d h mi wd w (decide_eq_false c0) (decide_eq_false c1) (decide_eq_false c2) (decide_eq_false c3) (decide_eq_true c4)
  by_cases c5 : mdays y m < d
  · exact rmin_no5 y m d h mi wd w (decide_eq_false c0) (decide_eq_false c1) (decide_eq_false c2) (decide_eq_false c3) (decide_eq_false c4) (decide_eq_true c5)
  by_cases c6 : h < 0
  · exact rmin_no6 y m d h mi wd w (decide_eq_false c0) (decide_eq_false c1) (decide_eq_false c2) (decide_eq_false c3) (decide_eq_false c4) (decide_eq_false c5) (decide_eq_true c6)
  by_cases c7 : 23 < h
  · exact rmin_no7 y m d h mi wd w (decide_eq_false c0) (decide_eq_false c1) (decide_eq_false c2) (decide_eq_false c3) (decide_eq_false c4) (decide_eq_false c5) (decide_eq_false c6) (decide_eq_true c7)
  by_cases c8 : mi < 0
  · exact rmin_no8 y m d h mi wd w (decide_eq_false c0) (decide_eq_false c1) (decide_eq_false c2) (decide_eq_false c3) (decide_eq_false c4) (decide_eq_false c5) (decide_eq_false c6) (decide_eq_false c7) (decide_eq_true c8)
  by_cases c9 : 59 < mi
  · exact rmin_no9 y m d h mi wd w (decide_eq_false c0) (decide_eq_false c1) (decide_eq_false c2) (decide_eq_false c3) (decide_eq_false c4) (decide_eq_false c5) (decide_eq_false c6) (decide_eq_false c7) (decide_eq_false c8) (decide_eq_true c9)
  exfalso
  have : fitsB y m d h mi = true := by
    simp only [fitsB, inB, Bool.and_eq_true, decide_eq_true_eq]
    omega
  rw [this] at hf
  cases hf
end Go.Proofs.YthkfjaegnalakaaDoor
