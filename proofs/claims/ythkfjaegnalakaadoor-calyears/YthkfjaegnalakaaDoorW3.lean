/- CalYears, walked. -/
import Derived.Test.YthkfjaegnalakaaDoorC5
import Derived.Deep.CutRange
namespace Go.Proofs.YthkfjaegnalakaaDoor
open Go Go.RowKit
theorem fits_first {y : Int} (h1 : 1 ≤ y) (h2 : y ≤ 9999) : fitsB y 1 1 0 0 = true := by
  have e1 : inB y 1 9999 = true := by simp [inB, h1, h2]
  have e2 : mdays y 1 = 31 := rfl
  unfold fitsB
  rw [e1, e2]
  rfl
theorem at_first {y : Int} (h1 : 1 ≤ y) : IsAt (minOf y 1 1 0 0) y 1 1 0 0 ((bef y + 1) % 7) := by
  have e : minOf y 1 1 0 0 = -1035593280 + bef y * 1440 := by unfold minOf; rw [cum_one]; omega
  refine ⟨?_, ?_, ?_, ?_⟩
  · rw [e, show (-1035593280 + bef y * 1440 + 1035593280) / 1440 = bef y by omega]
    exact ⟨h1, by decide, by decide, by decide, by show (1 : Int) ≤ 31; decide, by rw [cum_one]; omega⟩
  · rw [e]; omega
  · rw [e]; omega
  · rw [e]; omega
theorem minOf_first (y : Int) : minOf y 1 1 0 0 = -1035593280 + bef y * 1440 := by unfold minOf; rw [cum_one]; omega
theorem first_bd {y : Int} (h1 : 1 ≤ y) (h2 : y ≤ 9999) : -1035593280 ≤ minOf y 1 1 0 0 ∧ minOf y 1 1 0 0 ≤ 4223371679 := by
  rw [minOf_first]
  have h3 := bef_bd (y := y) (by omega) (by omega)
  have h4 := bef_le (y := y) (z := 9999) (by omega)
  have h9 : bef 9999 = 3651694 := by decide
  omega
set_option maxHeartbeats 2000000 in
theorem years_walk (x0 : Int) (w : World) (hT : HasT w) (_b0 : -9223372036854775808 ≤ x0 ∧ x0 ≤ 9223372036854775807) :
    Calls Tryd.prog 5 #[.int .i64 x0] w fun e w' => e = .returned (.bool true) ∧ Below w.heap.size w w' := by
  have hkn := known_any w hT
  have hw0 := fun W => within_any x0 9500 W (by decide) (by decide)
  have c0 := withinF_bd x0 9500 (by decide)
  generalize withinF x0 9500 = q at *
  obtain ⟨y, hy⟩ : ∃ y, y = 1 + q := ⟨_, rfl⟩
  have e1 : 1 + q = y := hy.symm
  have hy1 : 1 ≤ y := by omega
  have hy2 : y ≤ 9500 := by omega
  have hm1 := fun W (hW : Below w.heap.size w W) => minute_yes y 1 1 0 0 0 W (hT.below hW) (fits_first (by omega) (by omega))
  have hm2 := fun W (hW : Below w.heap.size w W) => minute_yes (y + 1) 1 1 0 0 0 W (hT.below hW) (fits_first (by omega) (by omega))
  have hm3 := fun W (hW : Below w.heap.size w W) => minute_yes (y + 400) 1 1 0 0 0 W (hT.below hW) (fits_first (by omega) (by omega))
  have ho1 := fun W (hW : Below w.heap.size w W) => of_at (at_first (y := y) (by omega)) W (hT.below hW) (first_bd (by omega) (by omega)).1 (first_bd (by omega) (by omega)).2
  have ho2 := fun W (hW : Below w.heap.size w W) => of_at (at_first (y := y + 400) (by omega)) W (hT.below hW) (first_bd (by omega) (by omega)).1 (first_bd (by omega) (by omega)).2
  have hbs := bef_succ y
  have hb4 := bef_400 y
  have hbb := bef_bd (y := y) (by omega) (by omega)
  have hlc := lp_leap y
  simp only [minOf_first, hbs, hb4] at hm1 hm2 hm3 ho1 ho2
  rw [show (bef y + 146097 + 1) % 7 = (bef y + 1) % 7 by omega] at ho2
  have hdd := fun m W (hW : Below w.heap.size w W) => days_any y m W (hT.below hW)
  have hlp := leap_any y
  have h365 : ∃ D, D = 365 + lp y ∧ (D = 365 ∨ D = 366) ∧ leapP y = decide (D = 366) := by
    refine ⟨_, rfl, ?_, ?_⟩
    · have := lp_01 y; omega
    · rw [hlc]; cases leapP y <;> simp
  obtain ⟨D, hD, hD2, hDl⟩ := h365
  have hc13 := cum_13 y
  rw [← hD] at hc13
  rw [show bef y + 365 + lp y = bef y + D by omega] at hm2
  have eM2 : -1035593280 + (bef y + D) * 1440 = -1035593280 + bef y * 1440 + D * 1440 := by omega
  have eM3 : -1035593280 + (bef y + 146097) * 1440 = -1035593280 + bef y * 1440 + 210379680 := by omega
  have hMb : -1035593280 ≤ -1035593280 + bef y * 1440 ∧ -1035593280 + bef y * 1440 ≤ 5000000000 := by omega
  rw [eM2] at hm2
  rw [eM3] at hm3 ho2
  generalize (bef y + 1) % 7 = K at *
  generalize -1035593280 + bef y * 1440 = M at *
  clear eM2 eM3 hbb
  have HCU := Hid.mk' (fun m (h1 : 1 ≤ m) (h2 : m ≤ 12) => cum_succ y h1 h2)
  have HCB := Hid.mk' (fun m (h1 : 1 ≤ m) (h2 : m ≤ 12) => cum_bd y h1 h2)
  have HMB := Hid.mk' (fun m (h1 : 1 ≤ m) (h2 : m ≤ 12) => mdays_bd y h1 h2)
  have HC13 := Hid.mk' hc13
  have hlp5 := fun W => hlp W
  rw [hDl] at hlp5
  have H1 := Hid.mk' hm1
  have H2 := Hid.mk' hm2
  have H3 := Hid.mk' hm3
  have H4 := Hid.mk' ho1
  have H5 := Hid.mk' ho2
  have H6 := Hid.mk' hdd
  clear hm1 hm2 hm3 ho1 ho2 hdd hT hbs hb4 hlc hc13 hy hD hlp hDl
  rcases hD2 with rfl | rfl
  all_goals
    simp only [Int.reduceEq, decide_true, decide_false, Int.reduceMul] at hlp5 H2
    go_enter Tryd.func5, Tryd.ntmps5
    go_wp2_with (first | (go_at_call 8; refine hkn.mono ?_; rintro e w1 ⟨rfl, hb1⟩) | (go_at_call 17; refine (hw0 _).mono ?_; rintro e w2 ⟨rfl, rfl⟩))
    refine (H1.out _ hb1).mono ?_
    rintro e w3 ⟨rfl, hb3⟩
    replace hb3 := hb1.trans (hb3.mono hb1.size)
    clear hkn hw0 hb1 H1
    go_wp2_with fail
    refine (H2.out _ hb3).mono ?_
    rintro e w4 ⟨rfl, hb4⟩
    replace hb4 := hb3.trans (hb4.mono hb3.size)
    clear hb3 H2
    go_wp2_with fail
    refine (H3.out _ hb4).mono ?_
    rintro e w5 ⟨rfl, hb5⟩
    replace hb5 := hb4.trans (hb5.mono hb4.size)
    clear hb4 H3
    go_wp2_with (go_at_call 13; refine (hlp5 _).mono ?_; rintro e w6 ⟨rfl, rfl⟩)
    refine (H4.out _ hb5).mono ?_
    rintro e w7 ⟨rfl, hb7⟩
    have HB7 := Hid.mk' (hb5.trans (hb7.mono hb5.size))
    clear hb5 hb7 hlp5 H4
    go_wp2_with fail
    refine (H5.out _ (HB7.out.alloc HB7.out.size _)).mono ?_
    rintro e w8 ⟨rfl, hb8⟩
    have HB8 : Hid (Below w.heap.size w w8) := (HB7.out.alloc HB7.out.size _).trans (hb8.mono (by have := HB7.out.size; simp; omega))
    have hs8 := hb8.size
    have hrow := (hb8.block w7.heap.size (by simp)).trans (heap_alloc_new w7 _)
    have HK : Hid (∀ o, (w8.alloc o).cell? ⟨w7.heap.size, 5, none⟩ = some (.int .i64 K)) := fun o => (cell_of_row _ _ _ _ _ _ ((heap_alloc_old w8 o (lt_of_row hrow)).trans hrow)).trans rfl
    clear hb8 hrow hs8 H5
    go_wp2_with fail
    have HB9 := Hid.mk' (HB8.out.alloc HB8.out.size (.cells #[.int .i64 (y + 400), .int .i64 1, .int .i64 1, .int .i64 0, .int .i64 0, .int .i64 K] 23))
    have hk := HK.out (.cells #[.int .i64 (y + 400), .int .i64 1, .int .i64 1, .int .i64 0, .int .i64 0, .int .i64 K] 23)
    have hk2 : (w8.alloc (.cells #[.int .i64 (y + 400), .int .i64 1, .int .i64 1, .int .i64 0, .int .i64 0, .int .i64 K] 23)).cell? ⟨w8.heap.size, 5, none⟩ = some (.int .i64 K) := (cell_of_row _ _ _ _ _ _ (heap_alloc_new w8 _)).trans rfl
    generalize (w8.alloc (.cells #[.int .i64 (y + 400), .int .i64 1, .int .i64 1, .int .i64 0, .int .i64 0, .int .i64 K] 23)) = w9 at *
    clear HK
    go_loopg [14, 15] 13 (fun kx s14 s15 wr => ∃ k : Int, 1 ≤ k ∧ k ≤ 13 ∧ (13 - k).toNat ≤ kx ∧ s15 = .int .i64 k ∧ s14 = .int .i64 (cum y k) ∧ wr = w9)
    case atStart => exact ⟨1, by decide, by decide, by decide, rfl, rfl, rfl⟩
    case round =>
      obtain ⟨k, hk1, hk2', hkx, rfl, rfl, rfl⟩ := hrel
      by_cases hlt : k ≤ 12
      · have hcb := HCB.out k hk1 hlt
        have hmb := HMB.out k hk1 hlt
        have HS := Hid.mk' (HCU.out k hk1 hlt)
        have hday := H6.out k wr HB9.out
        obtain ⟨hcb0, hcb1, _⟩ := hcb
        clear hk hk2
        go_wp2_with (go_at_call 15; refine hday.mono ?_; rintro e w' ⟨rfl, rfl⟩)
        go_roundg (13 - (k + 1)).toNat
        case measure => omega
        case rel => exact ⟨k + 1, by omega, by omega, by omega, rfl, val_eq HS.out.symm, rfl⟩
      · obtain rfl : k = 13 := by omega
        rw [HC13.out]
        go_wp2
        go_ret
        exact ⟨rfl, HB9.out⟩
end Go.Proofs.YthkfjaegnalakaaDoor
