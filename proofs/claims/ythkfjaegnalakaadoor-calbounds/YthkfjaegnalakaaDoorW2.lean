/- CalBounds, walked. -/
import Derived.Test.YthkfjaegnalakaaDoorC5
namespace Go.Proofs.YthkfjaegnalakaaDoor
open Go Go.RowKit
theorem fits_date {y m d : Int} (h1 : 1 ≤ y) (h2 : y ≤ 9999) : fitsB y m d 0 0 = decide (1 ≤ d ∧ d ≤ mdays y m) := by
  have e1 : inB y 1 9999 = true := by simp [inB, h1, h2]
  have e2 : inB (0 : Int) 0 23 = true := rfl
  have e3 : inB (0 : Int) 0 59 = true := rfl
  unfold fitsB
  rw [e1, e2, e3, Bool.true_and, Bool.and_true, Bool.and_true]
  by_cases hm : 1 ≤ m ∧ m ≤ 12
  · have e4 : inB m 1 12 = true := by simp [inB, hm]
    rw [e4, Bool.true_and]; rfl
  · have e4 : inB m 1 12 = false := by simp only [inB, hm, decide_false]
    rw [e4, Bool.false_and, mdays_no y (by omega)]
    symm
    rw [decide_eq_false_iff_not]
    omega
set_option maxHeartbeats 2000000 in
theorem bounds_walk (x0 x1 x2 x3 : Int) (w : World) (hT : HasT w) (_b0 : -9223372036854775808 ≤ x0 ∧ x0 ≤ 9223372036854775807) (_b1 : -9223372036854775808 ≤ x1 ∧ x1 ≤ 9223372036854775807) (_b2 : -9223372036854775808 ≤ x2 ∧ x2 ≤ 9223372036854775807) (_b3 : -9223372036854775808 ≤ x3 ∧ x3 ≤ 9223372036854775807) :
    Calls Tryd.prog 7 #[.int .i64 x0, .int .i64 x1, .int .i64 x2, .int .i64 x3] w fun e w' => e = .returned (.bool true) ∧ Below w.heap.size w w' := by
  have hkn := known_any w hT
  have hw0 := fun W => within_any x0 1099511627776 W (by decide) (by decide)
  have hw1 := fun W => within_any x1 9999 W (by decide) (by decide)
  have hw2 := fun W => within_any x2 15 W (by decide) (by decide)
  have hw3 := fun W => within_any x3 34 W (by decide) (by decide)
  have c0 := withinF_bd x0 1099511627776 (by decide)
  have c1 := withinF_bd x1 9999 (by decide)
  have c2 := withinF_bd x2 15 (by decide)
  have c3 := withinF_bd x3 34 (by decide)
  generalize withinF x0 1099511627776 = n at *
  generalize withinF x1 9999 = y at *
  generalize withinF x2 15 = m at *
  generalize withinF x3 34 = d at *
  have hm1 := fun W (hW : Below w.heap.size w W) => minute_yes 1 1 1 0 0 0 W (hT.below hW) (by decide)
  have hm2 := fun W (hW : Below w.heap.size w W) => minute_yes 9999 12 31 23 59 0 W (hT.below hW) (by decide)
  rw [show minOf 1 1 1 0 0 = -1035593280 by decide] at hm1
  rw [show minOf 9999 12 31 23 59 = 4223371679 by decide] at hm2
  have ho1 := fun W => of_no (-1035593280 - (1 + n)) W (by omega)
  have ho2 := fun W => of_no (4223371679 + (1 + n)) W (by omega)
  have ho3 := fun W (hW : Below w.heap.size w W) => of_yes (-1035593280) W (hT.below hW) (by decide) (by decide)
  have ho4 := fun W (hW : Below w.heap.size w W) => of_yes 4223371679 W (hT.below hW) (by decide) (by decide)
  have hdd := fun W (hW : Below w.heap.size w W) => days_any (1 + y) m W (hT.below hW)
  have hf := fits_date (y := 1 + y) (m := m) (d := d) (by omega) (by omega)
  have hmb : 0 ≤ mdays (1 + y) m ∧ mdays (1 + y) m ≤ 31 := by
    by_cases hm : 1 ≤ m ∧ m ≤ 12
    · have := mdays_bd (1 + y) hm.1 hm.2; omega
    · rw [mdays_no _ (by omega)]; decide
  have H1 := Hid.mk' hm1
  have H2 := Hid.mk' hm2
  have H3 := Hid.mk' ho3
  have H4 := Hid.mk' ho4
  have H5 := Hid.mk' hdd
  have HT := Hid.mk' hT
  have HF := Hid.mk' hf
  clear hm1 hm2 ho3 ho4 hdd hT hf
  go_enter Tryd.func7, Tryd.ntmps7
  go_wp2_with (first | (go_at_call 8; refine hkn.mono ?_; rintro e w1 ⟨rfl, hbl⟩) | (go_at_call_of 11 (Value.agg #[.int .i64 1, .int .i64 1, .int .i64 1, .int .i64 0, .int .i64 0, .int .i64 0]); refine (H1.out _ hbl).mono ?_; rintro e w2 ⟨rfl, hb2⟩; replace hb2 := hbl.trans (hb2.mono hbl.size)) | (go_at_call_of 11 (Value.agg #[.int .i64 9999, .int .i64 12, .int .i64 31, .int .i64 23, .int .i64 59, .int .i64 0]); refine (H2.out _ hb2).mono ?_; rintro e w3 ⟨rfl, hb3⟩; replace hb3 := hb2.trans (hb3.mono hb2.size)) | (go_at_call_of 17 (Value.int IntKind.i64 x0); refine (hw0 _).mono ?_; rintro e w2 ⟨rfl, rfl⟩))
  refine (ho1 _).mono ?_
  rintro e w4 ⟨rfl, hb4⟩
  have HB4 : Hid (Below w.heap.size w w4) := hb3.trans (hb4.mono hb3.size)
  clear hb4 hb3 hb2 hbl hkn H1 H2 ho1
  go_wp2_with fail
  refine (ho2 _).mono ?_
  rintro e w5 ⟨rfl, hb5⟩
  have HB5 : Hid (Below w.heap.size w w5) := (HB4.out.alloc HB4.out.size _).trans (hb5.mono (by have := HB4.out.size; simp; omega))
  clear hb5 ho2
  go_wp2_with fail
  refine (H3.out _ (HB5.out.alloc HB5.out.size _)).mono ?_
  rintro e w6 ⟨⟨y6, m6, d6, h6, i6, k6, rfl, _⟩, hb6⟩
  have HB6 : Hid (Below w.heap.size w w6) := (HB5.out.alloc HB5.out.size _).trans (hb6.mono (by have := HB5.out.size; simp; omega))
  clear hb6 H3
  go_wp2_with fail
  refine (H4.out _ (HB6.out.alloc HB6.out.size _)).mono ?_
  rintro e w7 ⟨⟨y7, m7, d7, h7, i7, k7, rfl, _⟩, hb7⟩
  have HB7 : Hid (Below w.heap.size w w7) := (HB6.out.alloc HB6.out.size _).trans (hb7.mono (by have := HB6.out.size; simp; omega))
  clear hb7 H4 hw0
  by_cases hd : 1 ≤ d
  · by_cases hd2 : d ≤ mdays (1 + y) m
    · have hmn := fun o => minute_yes (1 + y) m d 0 0 0 (w7.alloc o) (HT.out.below (HB7.out.alloc HB7.out.size o)) (by rw [HF.out]; simp [hd, hd2])
      go_wp2_with (first | (go_at_call_of 17 (Value.int IntKind.i64 x1); refine (hw1 _).mono ?_; rintro e w8 ⟨rfl, rfl⟩) | (go_at_call_of 17 (Value.int IntKind.i64 x2); refine (hw2 _).mono ?_; rintro e w8 ⟨rfl, rfl⟩) | (go_at_call_of 17 (Value.int IntKind.i64 x3); refine (hw3 _).mono ?_; rintro e w8 ⟨rfl, rfl⟩) | (go_at_call 11; refine (hmn _).mono ?_; rintro e w9 ⟨rfl, hb9⟩; have HB9 : Hid (Below w.heap.size w w9) := (HB7.out.alloc HB7.out.size _).trans (hb9.mono (by have := HB7.out.size; simp; omega)); clear hb9; have hdd := H5.out _ HB9.out) | (go_at_call 15; refine hdd.mono ?_; rintro e w10 ⟨rfl, rfl⟩))
      go_ret
      exact ⟨rfl, HB9.out⟩
    · have hmn := fun o => minute_no (1 + y) m d 0 0 0 (w7.alloc o) (HT.out.below (HB7.out.alloc HB7.out.size o)) (by rw [HF.out]; simp [hd2])
      go_wp2_with (first | (go_at_call_of 17 (Value.int IntKind.i64 x1); refine (hw1 _).mono ?_; rintro e w8 ⟨rfl, rfl⟩) | (go_at_call_of 17 (Value.int IntKind.i64 x2); refine (hw2 _).mono ?_; rintro e w8 ⟨rfl, rfl⟩) | (go_at_call_of 17 (Value.int IntKind.i64 x3); refine (hw3 _).mono ?_; rintro e w8 ⟨rfl, rfl⟩) | (go_at_call 11; refine (hmn _).mono ?_; rintro e w9 ⟨rfl, hb9⟩; have HB9 : Hid (Below w.heap.size w w9) := (HB7.out.alloc HB7.out.size _).trans (hb9.mono (by have := HB7.out.size; simp; omega)); clear hb9; have hdd := H5.out _ HB9.out) | (go_at_call 15; refine hdd.mono ?_; rintro e w10 ⟨rfl, rfl⟩))
      go_ret
      exact ⟨ret_bool (by simp; omega), HB9.out⟩
  · have hmn := fun o => minute_no (1 + y) m d 0 0 0 (w7.alloc o) (HT.out.below (HB7.out.alloc HB7.out.size o)) (by rw [HF.out]; simp [hd])
    go_wp2_with (first | (go_at_call_of 17 (Value.int IntKind.i64 x1); refine (hw1 _).mono ?_; rintro e w8 ⟨rfl, rfl⟩) | (go_at_call_of 17 (Value.int IntKind.i64 x2); refine (hw2 _).mono ?_; rintro e w8 ⟨rfl, rfl⟩) | (go_at_call_of 17 (Value.int IntKind.i64 x3); refine (hw3 _).mono ?_; rintro e w8 ⟨rfl, rfl⟩) | (go_at_call 11; refine (hmn _).mono ?_; rintro e w9 ⟨rfl, hb9⟩; have HB9 : Hid (Below w.heap.size w w9) := (HB7.out.alloc HB7.out.size _).trans (hb9.mono (by have := HB7.out.size; simp; omega)); clear hb9))
    go_ret
    exact ⟨rfl, HB9.out⟩
end Go.Proofs.YthkfjaegnalakaaDoor
