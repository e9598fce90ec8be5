/- CalDates, walked. -/
import Derived.Test.YthkfjaegnalakaaDoorC5
import Derived.Test.YthkfjaegnalakaaDoorR1
import Derived.Test.YthkfjaegnalakaaDoorR2
import Derived.Test.YthkfjaegnalakaaDoorR3
import Derived.Deep.CutRange
namespace Go.Proofs.YthkfjaegnalakaaDoor
open Go Go.RowKit
/-- What Of tells of a minute. -/
def OfIs (n y m d h mi wd c : Int) : Prop :=
  (-1035593280 ≤ n ∧ n ≤ 4223371679 ∧ c = 0 ∧ IsAt n y m d h mi wd) ∨ ((n < -1035593280 ∨ 4223371679 < n) ∧ c = 1 ∧ y = 0 ∧ m = 0 ∧ d = 0 ∧ h = 0 ∧ mi = 0 ∧ wd = 0)
theorem OfIs.uniq {n y m d h mi wd c y' m' d' h' mi' wd' c' : Int} (a : OfIs n y m d h mi wd c) (b : OfIs n y' m' d' h' mi' wd' c') : y = y' ∧ m = m' ∧ d = d' ∧ h = h' ∧ mi = mi' ∧ wd = wd' ∧ c = c' := by
  rcases a with ⟨a1, a2, a3, a4⟩ | ⟨a1, a2, a3, a4, a5, a6, a7, a8⟩ <;> rcases b with ⟨b1, b2, b3, b4⟩ | ⟨b1, b2, b3, b4, b5, b6, b7, b8⟩
  · obtain ⟨h1, h2, h3, h4, h5, h6⟩ := a4.uniq b4
    exact ⟨h1, h2, h3, h4, h5, h6, by omega⟩
  · omega
  · omega
  · omega
theorem of_all (n : Int) (w : World) (hT : HasT w) : Calls Tryd.prog 9 #[.int .i64 n] w fun e w' => (∃ y m d h mi wd c, e = .returned (.tuple #[dateV y m d h mi wd, .int .i64 c]) ∧ OfIs n y m d h mi wd c) ∧ Below w.heap.size w w' := by
  by_cases hn : -1035593280 ≤ n ∧ n ≤ 4223371679
  · refine (of_yes n w hT hn.1 hn.2).mono ?_
    rintro e w' ⟨⟨y, m, d, h, mi, wd, rfl, hA⟩, hb⟩
    exact ⟨⟨y, m, d, h, mi, wd, 0, rfl, .inl ⟨hn.1, hn.2, rfl, hA⟩⟩, hb⟩
  · refine (of_no n w (by omega)).mono ?_
    rintro e w' ⟨rfl, hb⟩
    exact ⟨⟨0, 0, 0, 0, 0, 0, 1, rfl, .inr ⟨by omega, rfl, rfl, rfl, rfl, rfl, rfl, rfl⟩⟩, hb⟩
theorem rof_all (n : Int) (w : World) (h0 : -9223372036854775808 ≤ n) (h1 : n ≤ 9223372036854775807) : Calls Tryd.prog 10 #[.int .i64 n] w fun e w' => (∃ y m d h mi wd c, e = .returned (.tuple #[dateV y m d h mi wd, .int .i64 c]) ∧ OfIs n y m d h mi wd c) ∧ Below w.heap.size w w' := by
  by_cases hn : -1035593280 ≤ n ∧ n ≤ 4223371679
  · refine (rof_yes n w hn.1 hn.2).mono ?_
    rintro e w' ⟨⟨y, m, d, h, mi, wd, rfl, hA⟩, hb⟩
    exact ⟨⟨y, m, d, h, mi, wd, 0, rfl, .inl ⟨hn.1, hn.2, rfl, hA⟩⟩, hb⟩
  · refine (rof_no n w h0 h1 (by omega)).mono ?_
    rintro e w' ⟨rfl, hb⟩
    exact ⟨⟨0, 0, 0, 0, 0, 0, 1, rfl, .inr ⟨by omega, rfl, rfl, rfl, rfl, rfl, rfl, rfl⟩⟩, hb⟩
def minV (y m d h mi : Int) : Int := if fitsB y m d h mi then minOf y m d h mi else 0
def minC (y m d h mi : Int) : Int := if fitsB y m d h mi then 0 else 1
theorem minute_all (y m d h mi wd : Int) (w : World) (hT : HasT w) : Calls Tryd.prog 11 #[dateV y m d h mi wd] w fun e w' => e = .returned (.tuple #[.int .i64 (minV y m d h mi), .int .i64 (minC y m d h mi)]) ∧ Below w.heap.size w w' := by
  unfold minV minC
  cases hf : fitsB y m d h mi with
  | true => exact minute_yes y m d h mi wd w hT hf
  | false => exact minute_no y m d h mi wd w hT hf
theorem rmin_all (y m d h mi wd : Int) (w : World) : Calls Tryd.prog 12 #[dateV y m d h mi wd] w fun e w' => e = .returned (.tuple #[.int .i64 (minV y m d h mi), .int .i64 (minC y m d h mi)]) ∧ Below w.heap.size w w' := by
  unfold minV minC
  cases hf : fitsB y m d h mi with
  | true => exact rmin_yes y m d h mi wd w hf
  | false => exact rmin_no y m d h mi wd w hf
set_option maxHeartbeats 2000000 in
theorem dates_walk (n y m d h mi wd : Int) (w : World) (hT : HasT w) (b0 : -9223372036854775808 ≤ n ∧ n ≤ 9223372036854775807) :
    Calls Tryd.prog 3 #[.int .i64 n, dateV y m d h mi wd] w fun e w' => e = .returned (.bool true) ∧ Below w.heap.size w w' := by
  have hTa := fun o => hT.below ((Below.refl w.heap.size w).alloc (Nat.le_refl _) o)
  have hkn := fun o => known_any (w.alloc o) (hTa o)
  have ho := fun W (hW : Below w.heap.size w W) => of_all n W (hT.below hW)
  have hr := fun W => rof_all n W b0.1 b0.2
  have hm := fun W (hW : Below w.heap.size w W) => minute_all y m d h mi wd W (hT.below hW)
  have hs := fun W => rmin_all y m d h mi wd W
  generalize minV y m d h mi = mv at *
  generalize minC y m d h mi = mc at *
  have HO := Hid.mk' ho
  have HM := Hid.mk' hm
  have HT := Hid.mk' hT
  clear hTa ho hm hT
  go_enter Tryd.func3, Tryd.ntmps3
  go_wp2_with fail
  refine (hkn _).mono ?_
  rintro e w1 ⟨rfl, hb1⟩
  have HB1 : Hid (Below w.heap.size w w1) := ((Below.refl _ _).alloc (Nat.le_refl _) _).trans (hb1.mono (by simp))
  have HR1 := Hid.mk' ((hb1.block w.heap.size (by simp)).trans (heap_alloc_new w _))
  clear hb1 hkn
  go_wp2_with fail
  refine (HO.out w1 HB1.out).mono ?_
  rintro e w2 ⟨⟨y2, m2, d2, h2, i2, k2, c2, rfl, hA⟩, hb2⟩
  have HB2 : Hid (Below w.heap.size w w2) := HB1.out.trans (hb2.mono HB1.out.size)
  have HR2 := Hid.mk' ((hb2.block w.heap.size (lt_of_row HR1.out)).trans HR1.out)
  have HA := Hid.mk' hA
  clear hb2 HR1 HB1 HO hA
  go_wp2_with fail
  refine (hr _).mono ?_
  rintro e w3 ⟨⟨y3, m3, d3, h3, i3, k3, c3, rfl, hA⟩, hb3⟩
  obtain ⟨rfl, rfl, rfl, rfl, rfl, rfl, rfl⟩ := HA.out.uniq hA
  have HB3 : Hid (Below w.heap.size w w3) := (HB2.out.alloc HB2.out.size _).trans (hb3.mono (by have := HB2.out.size; simp; omega))
  have HR3 := Hid.mk' ((hb3.block w.heap.size (by have := lt_of_row HR2.out; simp; omega)).trans ((heap_alloc_old w2 _ (lt_of_row HR2.out)).trans HR2.out))
  have HS3 := Hid.mk' ((hb3.block w2.heap.size (by simp)).trans (heap_alloc_new w2 _))
  have hne1 : ¬ w.heap.size = w2.heap.size := by have := lt_of_row HR2.out; omega
  clear hb3 hA HA hr HR2 HB2
  go_upto_region 5 with (fail)
  obtain ⟨w4, hw4⟩ : ∃ w4, w4 = w3.alloc (.cells #[.int .i64 y2, .int .i64 m2, .int .i64 d2, .int .i64 h2, .int .i64 i2, .int .i64 k2] 23) := ⟨_, rfl⟩
  rw [← hw4]
  have HR4 : Hid (w4.heap[w.heap.size]? = some (.cells #[.int .i64 y, .int .i64 m, .int .i64 d, .int .i64 h, .int .i64 mi, .int .i64 wd] 23)) := by rw [hw4]; exact (heap_alloc_old w3 _ (lt_of_row HR3.out)).trans HR3.out
  have HS4 : Hid (w4.heap[w2.heap.size]? = some (.cells #[.int .i64 y2, .int .i64 m2, .int .i64 d2, .int .i64 h2, .int .i64 i2, .int .i64 k2] 23)) := by rw [hw4]; exact (heap_alloc_old w3 _ (lt_of_row HS3.out)).trans HS3.out
  have HU4 : Hid (w4.heap[w3.heap.size]? = some (.cells #[.int .i64 y2, .int .i64 m2, .int .i64 d2, .int .i64 h2, .int .i64 i2, .int .i64 k2] 23)) := by rw [hw4]; exact heap_alloc_new w3 _
  have HB4 : Hid (Below w.heap.size w w4) := by rw [hw4]; exact HB3.out.alloc HB3.out.size _
  generalize w3.heap.size = E at *
  generalize w2.heap.size = F at *
  clear hw4 HR3 HS3 HB3 hne1
  have a0 : w4.cell? ⟨w.heap.size, 0, none⟩ = some (.int .i64 y) := (cell_of_row _ _ _ _ _ _ HR4.out).trans rfl
  have a1 : w4.cell? ⟨w.heap.size, 1, none⟩ = some (.int .i64 m) := (cell_of_row _ _ _ _ _ _ HR4.out).trans rfl
  have a2 : w4.cell? ⟨w.heap.size, 2, none⟩ = some (.int .i64 d) := (cell_of_row _ _ _ _ _ _ HR4.out).trans rfl
  have a3 : w4.cell? ⟨w.heap.size, 3, none⟩ = some (.int .i64 h) := (cell_of_row _ _ _ _ _ _ HR4.out).trans rfl
  have a4 : w4.cell? ⟨w.heap.size, 4, none⟩ = some (.int .i64 mi) := (cell_of_row _ _ _ _ _ _ HR4.out).trans rfl
  have a5 : w4.cell? ⟨w.heap.size, 5, none⟩ = some (.int .i64 wd) := (cell_of_row _ _ _ _ _ _ HR4.out).trans rfl
  have hm := HM.out w4 HB4.out
  go_upto_region 6 with (go_at_call 11; refine hm.mono ?_; rintro e w5 ⟨rfl, hb5⟩)
  have HB5 : Hid (Below w.heap.size w w5) := HB4.out.trans (hb5.mono HB4.out.size)
  have HR5 := Hid.mk' ((hb5.block w.heap.size (lt_of_row HR4.out)).trans HR4.out)
  have HS5 := Hid.mk' ((hb5.block F (lt_of_row HS4.out)).trans HS4.out)
  have HU5 := Hid.mk' ((hb5.block E (lt_of_row HU4.out)).trans HU4.out)
  clear hm hb5 HM HR4 HS4 HU4 HB4 a0 a1 a2 a3 a4 a5
  have a0 : w5.cell? ⟨w.heap.size, 0, none⟩ = some (.int .i64 y) := (cell_of_row _ _ _ _ _ _ HR5.out).trans rfl
  have a1 : w5.cell? ⟨w.heap.size, 1, none⟩ = some (.int .i64 m) := (cell_of_row _ _ _ _ _ _ HR5.out).trans rfl
  have a2 : w5.cell? ⟨w.heap.size, 2, none⟩ = some (.int .i64 d) := (cell_of_row _ _ _ _ _ _ HR5.out).trans rfl
  have a3 : w5.cell? ⟨w.heap.size, 3, none⟩ = some (.int .i64 h) := (cell_of_row _ _ _ _ _ _ HR5.out).trans rfl
  have a4 : w5.cell? ⟨w.heap.size, 4, none⟩ = some (.int .i64 mi) := (cell_of_row _ _ _ _ _ _ HR5.out).trans rfl
  have a5 : w5.cell? ⟨w.heap.size, 5, none⟩ = some (.int .i64 wd) := (cell_of_row _ _ _ _ _ _ HR5.out).trans rfl
  have hs5 := hs w5
  clear hs
  go_upto_region 7 with (go_at_call 12; refine hs5.mono ?_; rintro e w6 ⟨rfl, hb6⟩)
  have HB6 : Hid (Below w.heap.size w w6) := HB5.out.trans (hb6.mono HB5.out.size)
  have HR6 := Hid.mk' ((hb6.block w.heap.size (lt_of_row HR5.out)).trans HR5.out)
  have HS6 := Hid.mk' ((hb6.block F (lt_of_row HS5.out)).trans HS5.out)
  have HU6 := Hid.mk' ((hb6.block E (lt_of_row HU5.out)).trans HU5.out)
  clear hs5 hb6 HR5 HS5 HU5 HB5 a0 a1 a2 a3 a4 a5
  have a0 : w6.cell? ⟨w.heap.size, 0, none⟩ = some (.int .i64 y) := (cell_of_row _ _ _ _ _ _ HR6.out).trans rfl
  have a1 : w6.cell? ⟨w.heap.size, 1, none⟩ = some (.int .i64 m) := (cell_of_row _ _ _ _ _ _ HR6.out).trans rfl
  have e0 : w6.cell? ⟨F, 0, none⟩ = some (.int .i64 y2) := (cell_of_row _ _ _ _ _ _ HS6.out).trans rfl
  have f0 : w6.cell? ⟨E, 0, none⟩ = some (.int .i64 y2) := (cell_of_row _ _ _ _ _ _ HU6.out).trans rfl
  have e1 : w6.cell? ⟨F, 1, none⟩ = some (.int .i64 m2) := (cell_of_row _ _ _ _ _ _ HS6.out).trans rfl
  have f1 : w6.cell? ⟨E, 1, none⟩ = some (.int .i64 m2) := (cell_of_row _ _ _ _ _ _ HU6.out).trans rfl
  have e2 : w6.cell? ⟨F, 2, none⟩ = some (.int .i64 d2) := (cell_of_row _ _ _ _ _ _ HS6.out).trans rfl
  have f2 : w6.cell? ⟨E, 2, none⟩ = some (.int .i64 d2) := (cell_of_row _ _ _ _ _ _ HU6.out).trans rfl
  have e3 : w6.cell? ⟨F, 3, none⟩ = some (.int .i64 h2) := (cell_of_row _ _ _ _ _ _ HS6.out).trans rfl
  have f3 : w6.cell? ⟨E, 3, none⟩ = some (.int .i64 h2) := (cell_of_row _ _ _ _ _ _ HU6.out).trans rfl
  have e4 : w6.cell? ⟨F, 4, none⟩ = some (.int .i64 i2) := (cell_of_row _ _ _ _ _ _ HS6.out).trans rfl
  have f4 : w6.cell? ⟨E, 4, none⟩ = some (.int .i64 i2) := (cell_of_row _ _ _ _ _ _ HU6.out).trans rfl
  have e5 : w6.cell? ⟨F, 5, none⟩ = some (.int .i64 k2) := (cell_of_row _ _ _ _ _ _ HS6.out).trans rfl
  have f5 : w6.cell? ⟨E, 5, none⟩ = some (.int .i64 k2) := (cell_of_row _ _ _ _ _ _ HU6.out).trans rfl
  clear HR6 HS6 HU6
  go_quiet (first | (go_at_call 13; exact Calls.quiet_of_same (leap_any y _)) | (go_at_call 14; exact Calls.quiet_of_same (rleap_any y _)) | (go_at_call 16; exact Calls.quiet_of_same (rdays_any y m _)) | (exact Calls.quiet_of_same (days_any y m _ (HT.out.below (below_drewN HB6.out _)))))
  go_wp2
  go_ret
  exact ⟨rfl, below_drewN HB6.out _⟩
end Go.Proofs.YthkfjaegnalakaaDoor
