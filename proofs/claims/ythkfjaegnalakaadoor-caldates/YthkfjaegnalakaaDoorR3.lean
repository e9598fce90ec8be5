/- The document's Minute, where there is such a date. -/
import Derived.Test.YthkfjaegnalakaaDoorC4
namespace Go.Proofs.YthkfjaegnalakaaDoor
open Go Go.RowKit
set_option maxHeartbeats 2000000 in
theorem rmin_yes (y m d h mi wd : Int) (w : World) (hf : fitsB y m d h mi = true) :
    Calls Tryd.prog 12 #[dateV y m d h mi wd] w fun e w' => e = .returned (.tuple #[.int .i64 (minOf y m d h mi), .int .i64 0]) ∧ Below w.heap.size w w' := by
  have hrd := fun W => rdays_any y m W
  obtain ⟨hy1, hy2, hm1, hm2, hd1, hd2, hh1, hh2, hi1, hi2⟩ := fitsB_true hf
  have b0 : decide (y < 1) = false := by simp; omega
  have b1 : decide (9999 < y) = false := by simp; omega
  have b2 : decide (m < 1) = false := by simp; omega
  have b3 : decide (12 < m) = false := by simp; omega
  have b4 : decide (d < 1) = false := by simp; omega
  have b5 : decide (mdays y m < d) = false := by simp; omega
  have b6 : decide (h < 0) = false := by simp; omega
  have b7 : decide (23 < h) = false := by simp; omega
  have b8 : decide (mi < 0) = false := by simp; omega
  have b9 : decide (59 < mi) = false := by simp; omega
  have HH := Hid.mk' (And.intro hy1 (And.intro hy2 (And.intro hm1 (And.intro hm2 (And.intro hd1 (And.intro hd2 (And.intro hh1 (And.intro hh2 (And.intro hi1 hi2)))))))))
  clear hy1 hy2 hm1 hm2 hd1 hd2 hh1 hh2 hi1 hi2 hf
  go_enter Tryd.func12, Tryd.ntmps12
  go_wp2
  go_quiet (exact Calls.quiet_of_same (hrd _))
  go_wp2_with fail
  obtain ⟨hy1, hy2, hm1, hm2, hd1, hd2, hh1, hh2, hi1, hi2⟩ := HH.out
  have hbe := fun W => before_any y W hy1 (by omega)
  have hmb := mdays_bd y hm1 hm2
  have hbb := bef_bd (y := y) hy1 (by omega)
  have hd31 : d ≤ 31 := by omega
  clear b0 b1 b2 b3 b4 b5 b6 b7 b8 b9 hrd HH hmb hd2
  have hrow : ((w.alloc (.cells #[.int .i64 y, .int .i64 m, .int .i64 d, .int .i64 h, .int .i64 mi, .int .i64 wd] 23)).drewN nq).heap[w.heap.size]? = some (.cells #[.int .i64 y, .int .i64 m, .int .i64 d, .int .i64 h, .int .i64 mi, .int .i64 wd] 23) := heap_alloc_new w _
  have HB : Hid (Below w.heap.size w ((w.alloc (.cells #[.int .i64 y, .int .i64 m, .int .i64 d, .int .i64 h, .int .i64 mi, .int .i64 wd] 23)).drewN nq)) := below_drewN ((Below.refl _ _).alloc (Nat.le_refl _) _) nq
  generalize ((w.alloc (.cells #[.int .i64 y, .int .i64 m, .int .i64 d, .int .i64 h, .int .i64 mi, .int .i64 wd] 23)).drewN nq) = w1 at *
  have k0 : w1.cell? ⟨w.heap.size, 0, none⟩ = some (.int .i64 y) := (cell_of_row _ _ _ _ _ _ hrow).trans rfl
  have k1 : w1.cell? ⟨w.heap.size, 1, none⟩ = some (.int .i64 m) := (cell_of_row _ _ _ _ _ _ hrow).trans rfl
  have k2 : w1.cell? ⟨w.heap.size, 2, none⟩ = some (.int .i64 d) := (cell_of_row _ _ _ _ _ _ hrow).trans rfl
  have k3 : w1.cell? ⟨w.heap.size, 3, none⟩ = some (.int .i64 h) := (cell_of_row _ _ _ _ _ _ hrow).trans rfl
  have k4 : w1.cell? ⟨w.heap.size, 4, none⟩ = some (.int .i64 mi) := (cell_of_row _ _ _ _ _ _ hrow).trans rfl
  have k5 : w1.cell? ⟨w.heap.size, 5, none⟩ = some (.int .i64 wd) := (cell_of_row _ _ _ _ _ _ hrow).trans rfl
  clear hrow
  go_quiet (exact Calls.quiet_of_same (hbe _))
  clear hbe
  have HM : Hid (minOf y m d h mi = -1035593280 + (bef y + cum y m + d - 1) * 1440 + h * 60 + mi) := rfl
  generalize hb0 : bef y = b0 at *
  clear hb0
  go_wp2
  have HB2 := Hid.mk' (below_drewN HB.out nq)
  have k0' : (w1.drewN nq).cell? ⟨w.heap.size, 0, none⟩ = some (.int .i64 y) := k0
  have k1' : (w1.drewN nq).cell? ⟨w.heap.size, 1, none⟩ = some (.int .i64 m) := k1
  have k3' : (w1.drewN nq).cell? ⟨w.heap.size, 3, none⟩ = some (.int .i64 h) := k3
  have k4' : (w1.drewN nq).cell? ⟨w.heap.size, 4, none⟩ = some (.int .i64 mi) := k4
  clear k0 k1 k2 k3 k4 k5
  generalize (w1.drewN nq) = w2 at *
  generalize hX : b0 - 719162 + d - 1 = X at *
  have hXb : -719162 ≤ X ∧ X ≤ 3652100 := by omega
  have HX := Hid.mk' hX
  clear hX
  go_loopg [4, 5] 12 (fun kx s4 s5 wr => ∃ k : Int, 1 ≤ k ∧ k ≤ m ∧ (m - k).toNat ≤ kx ∧ s5 = .int .i64 k ∧ s4 = .int .i64 (X + cum y k) ∧ wr = w2)
  case atStart => exact ⟨1, by decide, by omega, by omega, rfl, by rw [cum_one, Int.add_zero], rfl⟩
  case round =>
    obtain ⟨k, hk1, hk2, hkx2, rfl, rfl, rfl⟩ := hrel
    have hcb := cum_bd y hk1 (by omega)
    have hmb := mdays_bd y hk1 (by omega)
    have HS := Hid.mk' (cum_succ y hk1 (by omega))
    have hdays := rdays_any y k wr
    obtain ⟨hcb0, hcb1, hcb2⟩ := hcb
    clear hcb2
    by_cases hlt : k < m
    · go_wp2_with (go_at_call 16; refine hdays.mono ?_; rintro e w' ⟨rfl, rfl⟩)
      go_roundg (m - (k + 1)).toNat
      case measure => omega
      case rel => exact ⟨k + 1, by omega, by omega, by omega, rfl, val_eq (by rw [HS.out]; omega), rfl⟩
    · obtain rfl : k = m := by omega
      clear hdays
      go_wp2
      go_ret2
      refine ⟨?_, HB2.out⟩
      have e1 := HM.out
      have e2 := HX.out
      have e3 : (X + cum y k) * 1440 + h * 60 + mi = minOf y k d h mi := by rw [e1, ← e2]; omega
      rw [← e3]
      rfl
end Go.Proofs.YthkfjaegnalakaaDoor
