/- CalBack, walked. -/
import Derived.Test.YthkfjaegnalakaaDoorC5
import Derived.Deep.CutRange
namespace Go.Proofs.YthkfjaegnalakaaDoor
open Go Go.RowKit
theorem IsAt.bd {n y m d h mi wd : Int} (a : IsAt n y m d h mi wd) : 0 ≤ h ∧ h ≤ 23 ∧ 0 ≤ mi ∧ mi ≤ 59 ∧ 0 ≤ wd ∧ wd ≤ 6 := by
  have h1 := a.hour; have h2 := a.minute; have h3 := a.wday; omega
theorem IsAt.fits {n y m d h mi wd : Int} (a : IsAt n y m d h mi wd) (h1 : n ≤ 4223371679) : fitsB y m d h mi = true := by
  have hb := a.bd
  have h9 := a.date.y9999 (by omega)
  have := a.date.y1; have := a.date.m1; have := a.date.m12; have := a.date.d1; have := a.date.dm
  simp only [fitsB, inB, Bool.and_eq_true, decide_eq_true_eq]
  omega
theorem IsAt.back {n y m d h mi wd : Int} (a : IsAt n y m d h mi wd) : minOf y m d h mi = n := by
  have h1 := a.date.at_; have h2 := a.hour; have h3 := a.minute
  unfold minOf
  omega
theorem IsAt.next1 {n y m d h mi wd : Int} (a : IsAt n y m d h mi wd) (h1 : mi < 59) : IsAt (n + 1) y m d h (mi + 1) wd := by
  have e1 := a.hour; have e2 := a.minute; have e3 := a.wday; have e4 := a.date
  have q : (n + 1 + 1035593280) / 1440 = (n + 1035593280) / 1440 := by omega
  refine ⟨by rw [q]; exact e4, ?_, ?_, by rw [q]; exact e3⟩ <;> omega
theorem IsAt.next2 {n y m d h mi wd : Int} (a : IsAt n y m d h mi wd) (h1 : mi = 59) (h2 : h < 23) : IsAt (n + 1) y m d (h + 1) 0 wd := by
  have e1 := a.hour; have e2 := a.minute; have e3 := a.wday; have e4 := a.date
  have q : (n + 1 + 1035593280) / 1440 = (n + 1035593280) / 1440 := by omega
  refine ⟨by rw [q]; exact e4, ?_, ?_, by rw [q]; exact e3⟩ <;> omega
theorem IsAt.next3 {n y m d h mi wd : Int} (a : IsAt n y m d h mi wd) (h1 : mi = 59) (h2 : h = 23) : IsAt (n + 1) (nextP y m d).1 (nextP y m d).2.1 (nextP y m d).2.2 0 0 ((wd + 1) % 7) := by
  have e1 := a.hour; have e2 := a.minute; have e3 := a.wday; have e4 := a.date
  have q : (n + 1 + 1035593280) / 1440 = (n + 1035593280) / 1440 + 1 := by omega
  refine ⟨by rw [q]; exact e4.next, ?_, ?_, by rw [q]; omega⟩ <;> omega
theorem next_same {y m d : Int} (h : d + 1 ≤ mdays y m) : nextP y m d = (y, m, d + 1) := by unfold nextP; rw [if_pos h]
theorem next_month {y m d : Int} (h : ¬ d + 1 ≤ mdays y m) (hm : m ≠ 12) : nextP y m d = (y, m + 1, 1) := by unfold nextP; rw [if_neg h, if_neg (by omega)]
theorem next_year {y m d : Int} (h : ¬ d + 1 ≤ mdays y m) (hm : m = 12) : nextP y m d = (y + 1, 1, 1) := by unfold nextP; rw [if_neg h, if_pos (by omega)]
set_option maxHeartbeats 8000000 in
theorem back_walk (x0 : Int) (w : World) (hT : HasT w) (_b0 : -9223372036854775808 ≤ x0 ∧ x0 ≤ 9223372036854775807) :
    Calls Tryd.prog 4 #[.int .i64 x0] w fun e w' => e = .returned (.bool true) ∧ Below w.heap.size w w' := by
  have hkn := known_any w hT
  have hw0 := fun W => within_any x0 5258000000 W (by decide) (by decide)
  have c0 := withinF_bd x0 5258000000 (by decide)
  generalize withinF x0 5258000000 = q at *
  have ho1 := fun W (hW : Below w.heap.size w W) => of_yes (q - 1035500000) W (hT.below hW) (by omega) (by omega)
  obtain ⟨n, hn⟩ : ∃ n, n = q - 1035500000 := ⟨_, rfl⟩
  have e0 : q - 1035500000 = n := hn.symm
  rw [e0] at ho1
  have hn0 : -1035593280 ≤ n := by omega
  have hn1 : n < 4223371679 := by omega
  have HT := Hid.mk' hT
  clear hT hn
  go_enter Tryd.func4, Tryd.ntmps4
  go_wp2_with (first | (go_at_call 8; refine hkn.mono ?_; rintro e w1 ⟨rfl, hb1⟩) | (go_at_call 17; refine (hw0 _).mono ?_; rintro e w2 ⟨rfl, rfl⟩))
  refine (ho1 _ hb1).mono ?_
  rintro e w3 ⟨⟨y, m, d, h, mi, wd, rfl, hA⟩, hb3⟩
  have HB3 := Hid.mk' (hb1.trans (hb3.mono hb1.size))
  have HA := Hid.mk' hA
  have hmn := fun o => minute_yes y m d h mi wd (w3.alloc o) (HT.out.below (HB3.out.alloc HB3.out.size o)) (hA.fits (by omega))
  rw [hA.back] at hmn
  clear hb1 hb3 hkn hw0 ho1 hA c0 e0
  go_wp2_with fail
  refine (hmn _).mono ?_
  rintro e w4 ⟨rfl, hb4⟩
  have HB4 : Hid (Below w.heap.size w w4) := (HB3.out.alloc HB3.out.size _).trans (hb4.mono (by have := HB3.out.size; simp; omega))
  have hrow := (hb4.block w3.heap.size (by simp)).trans (heap_alloc_new w3 _)
  have HR4 := Hid.mk' hrow
  clear hrow hb4 hmn
  go_wp2_with fail
  have hbd := HA.out.bd
  have hdt := HA.out.date
  have hd9 := hdt.y9999 (by omega)
  obtain ⟨hy1, hm1, hm12, hd1, hdm, hat⟩ := hdt
  clear hat
  have hmb := mdays_bd y hm1 hm12
  obtain ⟨hh0, hh1, hi0, hi1, hw0, hw1⟩ := hbd
  obtain ⟨yn, mn, dn, hn', inn, wn, hN, hcase⟩ : ∃ yn mn dn hn' inn wn, IsAt (n + 1) yn mn dn hn' inn wn ∧
      ((mi < 59 ∧ y = yn ∧ m = mn ∧ d = dn ∧ h = hn' ∧ inn = mi + 1 ∧ wd = wn) ∨ (mi = 59 ∧ h < 23 ∧ y = yn ∧ m = mn ∧ d = dn ∧ hn' = h + 1 ∧ inn = 0 ∧ wd = wn) ∨
       (mi = 59 ∧ h = 23 ∧ d + 1 ≤ mdays y m ∧ y = yn ∧ m = mn ∧ dn = d + 1 ∧ hn' = 0 ∧ inn = 0 ∧ wn = (wd + 1) % 7) ∨ (mi = 59 ∧ h = 23 ∧ ¬ d + 1 ≤ mdays y m ∧ m ≠ 12 ∧ y = yn ∧ mn = m + 1 ∧ dn = 1 ∧ hn' = 0 ∧ inn = 0 ∧ wn = (wd + 1) % 7) ∨
       (mi = 59 ∧ h = 23 ∧ ¬ d + 1 ≤ mdays y m ∧ m = 12 ∧ yn = y + 1 ∧ mn = 1 ∧ dn = 1 ∧ hn' = 0 ∧ inn = 0 ∧ wn = (wd + 1) % 7)) := by
    by_cases g1 : mi < 59
    · exact ⟨_, _, _, _, _, _, HA.out.next1 g1, .inl ⟨g1, rfl, rfl, rfl, rfl, rfl, rfl⟩⟩
    · have g1' : mi = 59 := by omega
      by_cases g2 : h < 23
      · exact ⟨_, _, _, _, _, _, HA.out.next2 g1' g2, .inr (.inl ⟨g1', g2, rfl, rfl, rfl, rfl, rfl, rfl⟩)⟩
      · have g2' : h = 23 := by omega
        have hx := HA.out.next3 g1' g2'
        by_cases g3 : d + 1 ≤ mdays y m
        · rw [next_same g3] at hx
          exact ⟨_, _, _, _, _, _, hx, .inr (.inr (.inl ⟨g1', g2', g3, rfl, rfl, rfl, rfl, rfl, rfl⟩))⟩
        · by_cases g4 : m = 12
          · rw [next_year g3 g4] at hx
            exact ⟨_, _, _, _, _, _, hx, .inr (.inr (.inr (.inr ⟨g1', g2', g3, g4, rfl, rfl, rfl, rfl, rfl, rfl⟩)))⟩
          · rw [next_month g3 g4] at hx
            exact ⟨_, _, _, _, _, _, hx, .inr (.inr (.inr (.inl ⟨g1', g2', g3, g4, rfl, rfl, rfl, rfl, rfl, rfl⟩)))⟩
  refine (of_at hN w4 (HT.out.below HB4.out) (by omega) (by omega)).mono ?_
  rintro e w5 ⟨rfl, hb5⟩
  have HB5 : Hid (Below w.heap.size w w5) := HB4.out.trans (hb5.mono HB4.out.size)
  have HR5 := Hid.mk' ((hb5.block w3.heap.size (lt_of_row HR4.out)).trans HR4.out)
  clear hb5 hN HA HR4
  go_upto_region 9 with (fail)
  obtain ⟨w6, hw6⟩ : ∃ w6, w6 = w5.alloc (.cells #[.int .i64 yn, .int .i64 mn, .int .i64 dn, .int .i64 hn', .int .i64 inn, .int .i64 wn] 23) := ⟨_, rfl⟩
  obtain ⟨A, hA⟩ : ∃ A, A = w3.heap.size := ⟨_, rfl⟩
  obtain ⟨E, hE⟩ : ∃ E, E = w5.heap.size := ⟨_, rfl⟩
  rw [← hw6, ← hA, ← hE]
  have hlt : A < w5.heap.size := by rw [hA]; exact lt_of_row HR5.out
  have hRA : w6.heap[A]? = some (.cells #[.int .i64 y, .int .i64 m, .int .i64 d, .int .i64 h, .int .i64 mi, .int .i64 wd] 23) := by rw [hw6, heap_alloc_old w5 _ hlt, hA]; exact HR5.out
  have hRE : w6.heap[E]? = some (.cells #[.int .i64 yn, .int .i64 mn, .int .i64 dn, .int .i64 hn', .int .i64 inn, .int .i64 wn] 23) := by rw [hw6, hE]; exact heap_alloc_new w5 _
  have HB6 : Hid (Below w.heap.size w w6) := by rw [hw6]; exact HB5.out.alloc HB5.out.size _
  have HAE : Hid (A ≠ E) := by show A ≠ E; omega
  have HAB : Hid (w.heap.size ≤ A) := by show _ ≤ A; rw [hA]; exact HB3.out.size
  clear hw6 hA hE hlt HR5 HB5 HB4 HB3
  have hne : ¬ A = E := HAE.out
  have hne' : ¬ E = A := fun e => HAE.out e.symm
  have a0 : w6.cell? ⟨A, 0, none⟩ = some (.int .i64 y) := (cell_of_row _ _ _ _ _ _ hRA).trans rfl
  have f0 := frozen_of_row w6 A 0 _ 23 hRA
  have a1 : w6.cell? ⟨A, 1, none⟩ = some (.int .i64 m) := (cell_of_row _ _ _ _ _ _ hRA).trans rfl
  have f1 := frozen_of_row w6 A 1 _ 23 hRA
  have a2 : w6.cell? ⟨A, 2, none⟩ = some (.int .i64 d) := (cell_of_row _ _ _ _ _ _ hRA).trans rfl
  have f2 := frozen_of_row w6 A 2 _ 23 hRA
  have a3 : w6.cell? ⟨A, 3, none⟩ = some (.int .i64 h) := (cell_of_row _ _ _ _ _ _ hRA).trans rfl
  have f3 := frozen_of_row w6 A 3 _ 23 hRA
  have a4 : w6.cell? ⟨A, 4, none⟩ = some (.int .i64 mi) := (cell_of_row _ _ _ _ _ _ hRA).trans rfl
  have f4 := frozen_of_row w6 A 4 _ 23 hRA
  have a5 : w6.cell? ⟨A, 5, none⟩ = some (.int .i64 wd) := (cell_of_row _ _ _ _ _ _ hRA).trans rfl
  have f5 := frozen_of_row w6 A 5 _ 23 hRA
  have HRA := Hid.mk' hRA
  have HRE := Hid.mk' hRE
  clear hRA hRE
  have t7 : (wd + 1).tmod 7 = (wd + 1) % 7 := Int.tmod_eq_emod_of_nonneg (by omega)
  rcases hcase with ⟨g1, q0, q1, q2, q3, q4, q5⟩ | ⟨g1, g2, q0, q1, q2, q3, q4, q5⟩ | ⟨g1, g2, g3, q0, q1, q2, q3, q4, q5⟩ | ⟨g1, g2, g3, g4, q0, q1, q2, q3, q4, q5⟩ | ⟨g1, g2, g3, g4, q0, q1, q2, q3, q4, q5⟩
  · subst q0 q1 q2 q3 q4 q5
    go_wp2_with fail
    obtain ⟨w7, hw7⟩ : ∃ w7, w7 = (w6.setCell ⟨A, 4, none⟩ (.int .i64 (mi + 1))) := ⟨_, rfl⟩
    rw [← hw7]
    have hRA7 : w7.heap[A]? = some (.cells #[.int .i64 y, .int .i64 m, .int .i64 d, .int .i64 h, .int .i64 (mi + 1), .int .i64 wd] 23) := by rw [hw7]; exact (heap_setCell_row HRA.out 4 (.int .i64 (mi + 1)))
    have hRE7 : w7.heap[E]? = some (.cells #[.int .i64 y, .int .i64 m, .int .i64 d, .int .i64 h, .int .i64 (mi + 1), .int .i64 wd] 23) := by rw [hw7]; exact ((heap_setCell_other ⟨A, 4, none⟩ (.int .i64 (mi + 1)) HAE.out).trans HRE.out)
    have HB7 : Hid (Below w.heap.size w w7) := by rw [hw7]; exact (HB6.out.setCell (p := ⟨A, 4, none⟩) HAB.out (.int .i64 (mi + 1)))
    clear hw7 HRA HRE HB6 a0 a1 a2 a3 a4 a5 f0 f1 f2 f3 f4 f5
    have a0 : w7.cell? ⟨A, 0, none⟩ = some (.int .i64 y) := (cell_of_row _ _ _ _ _ _ hRA7).trans rfl
    have f0 := frozen_of_row w7 A 0 _ 23 hRA7
    have e0 : w7.cell? ⟨E, 0, none⟩ = some (.int .i64 y) := (cell_of_row _ _ _ _ _ _ hRE7).trans rfl
    have a1 : w7.cell? ⟨A, 1, none⟩ = some (.int .i64 m) := (cell_of_row _ _ _ _ _ _ hRA7).trans rfl
    have f1 := frozen_of_row w7 A 1 _ 23 hRA7
    have e1 : w7.cell? ⟨E, 1, none⟩ = some (.int .i64 m) := (cell_of_row _ _ _ _ _ _ hRE7).trans rfl
    have a2 : w7.cell? ⟨A, 2, none⟩ = some (.int .i64 d) := (cell_of_row _ _ _ _ _ _ hRA7).trans rfl
    have f2 := frozen_of_row w7 A 2 _ 23 hRA7
    have e2 : w7.cell? ⟨E, 2, none⟩ = some (.int .i64 d) := (cell_of_row _ _ _ _ _ _ hRE7).trans rfl
    have a3 : w7.cell? ⟨A, 3, none⟩ = some (.int .i64 h) := (cell_of_row _ _ _ _ _ _ hRA7).trans rfl
    have f3 := frozen_of_row w7 A 3 _ 23 hRA7
    have e3 : w7.cell? ⟨E, 3, none⟩ = some (.int .i64 h) := (cell_of_row _ _ _ _ _ _ hRE7).trans rfl
    have a4 : w7.cell? ⟨A, 4, none⟩ = some (.int .i64 (mi + 1)) := (cell_of_row _ _ _ _ _ _ hRA7).trans rfl
    have f4 := frozen_of_row w7 A 4 _ 23 hRA7
    have e4 : w7.cell? ⟨E, 4, none⟩ = some (.int .i64 (mi + 1)) := (cell_of_row _ _ _ _ _ _ hRE7).trans rfl
    have a5 : w7.cell? ⟨A, 5, none⟩ = some (.int .i64 wd) := (cell_of_row _ _ _ _ _ _ hRA7).trans rfl
    have f5 := frozen_of_row w7 A 5 _ 23 hRA7
    have e5 : w7.cell? ⟨E, 5, none⟩ = some (.int .i64 wd) := (cell_of_row _ _ _ _ _ _ hRE7).trans rfl
    clear hRA7 hRE7
    go_quiet (first | exact Calls.quiet_of_same (days_any y m _ (HT.out.below (below_drewN HB7.out _))) | exact Calls.quiet_of_same (days_any y m _ (HT.out.below HB7.out)))
    go_wp2
    go_ret
    exact ⟨rfl, (below_drewN HB7.out nq)⟩
  · subst g1 q0 q1 q2 q3 q4 q5
    go_wp2_with fail
    obtain ⟨w7, hw7⟩ : ∃ w7, w7 = (((w6.setCell ⟨A, 4, none⟩ (.int .i64 60)).setCell ⟨A, 4, none⟩ (.int .i64 0)).setCell ⟨A, 3, none⟩ (.int .i64 (h + 1))) := ⟨_, rfl⟩
    rw [← hw7]
    have hRA7 : w7.heap[A]? = some (.cells #[.int .i64 y, .int .i64 m, .int .i64 d, .int .i64 (h + 1), .int .i64 0, .int .i64 wd] 23) := by rw [hw7]; exact (heap_setCell_row (heap_setCell_row (heap_setCell_row HRA.out 4 (.int .i64 60)) 4 (.int .i64 0)) 3 (.int .i64 (h + 1)))
    have hRE7 : w7.heap[E]? = some (.cells #[.int .i64 y, .int .i64 m, .int .i64 d, .int .i64 (h + 1), .int .i64 0, .int .i64 wd] 23) := by rw [hw7]; exact ((heap_setCell_other ⟨A, 3, none⟩ (.int .i64 (h + 1)) HAE.out).trans ((heap_setCell_other ⟨A, 4, none⟩ (.int .i64 0) HAE.out).trans ((heap_setCell_other ⟨A, 4, none⟩ (.int .i64 60) HAE.out).trans HRE.out)))
    have HB7 : Hid (Below w.heap.size w w7) := by rw [hw7]; exact (((HB6.out.setCell (p := ⟨A, 4, none⟩) HAB.out (.int .i64 60)).setCell (p := ⟨A, 4, none⟩) HAB.out (.int .i64 0)).setCell (p := ⟨A, 3, none⟩) HAB.out (.int .i64 (h + 1)))
    clear hw7 HRA HRE HB6 a0 a1 a2 a3 a4 a5 f0 f1 f2 f3 f4 f5
    have a0 : w7.cell? ⟨A, 0, none⟩ = some (.int .i64 y) := (cell_of_row _ _ _ _ _ _ hRA7).trans rfl
    have f0 := frozen_of_row w7 A 0 _ 23 hRA7
    have e0 : w7.cell? ⟨E, 0, none⟩ = some (.int .i64 y) := (cell_of_row _ _ _ _ _ _ hRE7).trans rfl
    have a1 : w7.cell? ⟨A, 1, none⟩ = some (.int .i64 m) := (cell_of_row _ _ _ _ _ _ hRA7).trans rfl
    have f1 := frozen_of_row w7 A 1 _ 23 hRA7
    have e1 : w7.cell? ⟨E, 1, none⟩ = some (.int .i64 m) := (cell_of_row _ _ _ _ _ _ hRE7).trans rfl
    have a2 : w7.cell? ⟨A, 2, none⟩ = some (.int .i64 d) := (cell_of_row _ _ _ _ _ _ hRA7).trans rfl
    have f2 := frozen_of_row w7 A 2 _ 23 hRA7
    have e2 : w7.cell? ⟨E, 2, none⟩ = some (.int .i64 d) := (cell_of_row _ _ _ _ _ _ hRE7).trans rfl
    have a3 : w7.cell? ⟨A, 3, none⟩ = some (.int .i64 (h + 1)) := (cell_of_row _ _ _ _ _ _ hRA7).trans rfl
    have f3 := frozen_of_row w7 A 3 _ 23 hRA7
    have e3 : w7.cell? ⟨E, 3, none⟩ = some (.int .i64 (h + 1)) := (cell_of_row _ _ _ _ _ _ hRE7).trans rfl
    have a4 : w7.cell? ⟨A, 4, none⟩ = some (.int .i64 0) := (cell_of_row _ _ _ _ _ _ hRA7).trans rfl
    have f4 := frozen_of_row w7 A 4 _ 23 hRA7
    have e4 : w7.cell? ⟨E, 4, none⟩ = some (.int .i64 0) := (cell_of_row _ _ _ _ _ _ hRE7).trans rfl
    have a5 : w7.cell? ⟨A, 5, none⟩ = some (.int .i64 wd) := (cell_of_row _ _ _ _ _ _ hRA7).trans rfl
    have f5 := frozen_of_row w7 A 5 _ 23 hRA7
    have e5 : w7.cell? ⟨E, 5, none⟩ = some (.int .i64 wd) := (cell_of_row _ _ _ _ _ _ hRE7).trans rfl
    clear hRA7 hRE7
    go_quiet (first | exact Calls.quiet_of_same (days_any y m _ (HT.out.below (below_drewN HB7.out _))) | exact Calls.quiet_of_same (days_any y m _ (HT.out.below HB7.out)))
    go_wp2
    go_ret
    exact ⟨rfl, (below_drewN HB7.out nq)⟩
  · subst g1 g2 q0 q1 q2 q3 q4 q5
    go_wp2_with fail
    obtain ⟨w7, hw7⟩ : ∃ w7, w7 = ((((((w6.setCell ⟨A, 4, none⟩ (.int .i64 60)).setCell ⟨A, 4, none⟩ (.int .i64 0)).setCell ⟨A, 3, none⟩ (.int .i64 24)).setCell ⟨A, 3, none⟩ (.int .i64 0)).setCell ⟨A, 2, none⟩ (.int .i64 (d + 1))).setCell ⟨A, 5, none⟩ (.int .i64 ((wd + 1) % 7))) := ⟨_, rfl⟩
    rw [← hw7]
    have hRA7 : w7.heap[A]? = some (.cells #[.int .i64 y, .int .i64 m, .int .i64 (d + 1), .int .i64 0, .int .i64 0, .int .i64 ((wd + 1) % 7)] 23) := by rw [hw7]; exact (heap_setCell_row (heap_setCell_row (heap_setCell_row (heap_setCell_row (heap_setCell_row (heap_setCell_row HRA.out 4 (.int .i64 60)) 4 (.int .i64 0)) 3 (.int .i64 24)) 3 (.int .i64 0)) 2 (.int .i64 (d + 1))) 5 (.int .i64 ((wd + 1) % 7)))
    have hRE7 : w7.heap[E]? = some (.cells #[.int .i64 y, .int .i64 m, .int .i64 (d + 1), .int .i64 0, .int .i64 0, .int .i64 ((wd + 1) % 7)] 23) := by rw [hw7]; exact ((heap_setCell_other ⟨A, 5, none⟩ (.int .i64 ((wd + 1) % 7)) HAE.out).trans ((heap_setCell_other ⟨A, 2, none⟩ (.int .i64 (d + 1)) HAE.out).trans ((heap_setCell_other ⟨A, 3, none⟩ (.int .i64 0) HAE.out).trans ((heap_setCell_other ⟨A, 3, none⟩ (.int .i64 24) HAE.out).trans ((heap_setCell_other ⟨A, 4, none⟩ (.int .i64 0) HAE.out).trans ((heap_setCell_other ⟨A, 4, none⟩ (.int .i64 60) HAE.out).trans HRE.out))))))
    have HB7 : Hid (Below w.heap.size w w7) := by rw [hw7]; exact ((((((HB6.out.setCell (p := ⟨A, 4, none⟩) HAB.out (.int .i64 60)).setCell (p := ⟨A, 4, none⟩) HAB.out (.int .i64 0)).setCell (p := ⟨A, 3, none⟩) HAB.out (.int .i64 24)).setCell (p := ⟨A, 3, none⟩) HAB.out (.int .i64 0)).setCell (p := ⟨A, 2, none⟩) HAB.out (.int .i64 (d + 1))).setCell (p := ⟨A, 5, none⟩) HAB.out (.int .i64 ((wd + 1) % 7)))
    clear hw7 HRA HRE HB6 a0 a1 a2 a3 a4 a5 f0 f1 f2 f3 f4 f5
    have a0 : w7.cell? ⟨A, 0, none⟩ = some (.int .i64 y) := (cell_of_row _ _ _ _ _ _ hRA7).trans rfl
    have f0 := frozen_of_row w7 A 0 _ 23 hRA7
    have e0 : w7.cell? ⟨E, 0, none⟩ = some (.int .i64 y) := (cell_of_row _ _ _ _ _ _ hRE7).trans rfl
    have a1 : w7.cell? ⟨A, 1, none⟩ = some (.int .i64 m) := (cell_of_row _ _ _ _ _ _ hRA7).trans rfl
    have f1 := frozen_of_row w7 A 1 _ 23 hRA7
    have e1 : w7.cell? ⟨E, 1, none⟩ = some (.int .i64 m) := (cell_of_row _ _ _ _ _ _ hRE7).trans rfl
    have a2 : w7.cell? ⟨A, 2, none⟩ = some (.int .i64 (d + 1)) := (cell_of_row _ _ _ _ _ _ hRA7).trans rfl
    have f2 := frozen_of_row w7 A 2 _ 23 hRA7
    have e2 : w7.cell? ⟨E, 2, none⟩ = some (.int .i64 (d + 1)) := (cell_of_row _ _ _ _ _ _ hRE7).trans rfl
    have a3 : w7.cell? ⟨A, 3, none⟩ = some (.int .i64 0) := (cell_of_row _ _ _ _ _ _ hRA7).trans rfl
    have f3 := frozen_of_row w7 A 3 _ 23 hRA7
    have e3 : w7.cell? ⟨E, 3, none⟩ = some (.int .i64 0) := (cell_of_row _ _ _ _ _ _ hRE7).trans rfl
    have a4 : w7.cell? ⟨A, 4, none⟩ = some (.int .i64 0) := (cell_of_row _ _ _ _ _ _ hRA7).trans rfl
    have f4 := frozen_of_row w7 A 4 _ 23 hRA7
    have e4 : w7.cell? ⟨E, 4, none⟩ = some (.int .i64 0) := (cell_of_row _ _ _ _ _ _ hRE7).trans rfl
    have a5 : w7.cell? ⟨A, 5, none⟩ = some (.int .i64 ((wd + 1) % 7)) := (cell_of_row _ _ _ _ _ _ hRA7).trans rfl
    have f5 := frozen_of_row w7 A 5 _ 23 hRA7
    have e5 : w7.cell? ⟨E, 5, none⟩ = some (.int .i64 ((wd + 1) % 7)) := (cell_of_row _ _ _ _ _ _ hRE7).trans rfl
    clear hRA7 hRE7
    go_quiet (first | exact Calls.quiet_of_same (days_any y m _ (HT.out.below (below_drewN HB7.out _))) | exact Calls.quiet_of_same (days_any y m _ (HT.out.below HB7.out)))
    go_wp2
    go_ret
    exact ⟨rfl, (below_drewN HB7.out nq)⟩
  · subst g1 g2 q0 q1 q2 q3 q4 q5
    go_wp2_with fail
    obtain ⟨w7, hw7⟩ : ∃ w7, w7 = ((((((w6.setCell ⟨A, 4, none⟩ (.int .i64 60)).setCell ⟨A, 4, none⟩ (.int .i64 0)).setCell ⟨A, 3, none⟩ (.int .i64 24)).setCell ⟨A, 3, none⟩ (.int .i64 0)).setCell ⟨A, 2, none⟩ (.int .i64 (d + 1))).setCell ⟨A, 5, none⟩ (.int .i64 ((wd + 1) % 7))) := ⟨_, rfl⟩
    rw [← hw7]
    have hRA7 : w7.heap[A]? = some (.cells #[.int .i64 y, .int .i64 m, .int .i64 (d + 1), .int .i64 0, .int .i64 0, .int .i64 ((wd + 1) % 7)] 23) := by rw [hw7]; exact (heap_setCell_row (heap_setCell_row (heap_setCell_row (heap_setCell_row (heap_setCell_row (heap_setCell_row HRA.out 4 (.int .i64 60)) 4 (.int .i64 0)) 3 (.int .i64 24)) 3 (.int .i64 0)) 2 (.int .i64 (d + 1))) 5 (.int .i64 ((wd + 1) % 7)))
    have hRE7 : w7.heap[E]? = some (.cells #[.int .i64 y, .int .i64 (m + 1), .int .i64 1, .int .i64 0, .int .i64 0, .int .i64 ((wd + 1) % 7)] 23) := by rw [hw7]; exact ((heap_setCell_other ⟨A, 5, none⟩ (.int .i64 ((wd + 1) % 7)) HAE.out).trans ((heap_setCell_other ⟨A, 2, none⟩ (.int .i64 (d + 1)) HAE.out).trans ((heap_setCell_other ⟨A, 3, none⟩ (.int .i64 0) HAE.out).trans ((heap_setCell_other ⟨A, 3, none⟩ (.int .i64 24) HAE.out).trans ((heap_setCell_other ⟨A, 4, none⟩ (.int .i64 0) HAE.out).trans ((heap_setCell_other ⟨A, 4, none⟩ (.int .i64 60) HAE.out).trans HRE.out))))))
    have HB7 : Hid (Below w.heap.size w w7) := by rw [hw7]; exact ((((((HB6.out.setCell (p := ⟨A, 4, none⟩) HAB.out (.int .i64 60)).setCell (p := ⟨A, 4, none⟩) HAB.out (.int .i64 0)).setCell (p := ⟨A, 3, none⟩) HAB.out (.int .i64 24)).setCell (p := ⟨A, 3, none⟩) HAB.out (.int .i64 0)).setCell (p := ⟨A, 2, none⟩) HAB.out (.int .i64 (d + 1))).setCell (p := ⟨A, 5, none⟩) HAB.out (.int .i64 ((wd + 1) % 7)))
    clear hw7 HRA HRE HB6 a0 a1 a2 a3 a4 a5 f0 f1 f2 f3 f4 f5
    have a0 : w7.cell? ⟨A, 0, none⟩ = some (.int .i64 y) := (cell_of_row _ _ _ _ _ _ hRA7).trans rfl
    have f0 := frozen_of_row w7 A 0 _ 23 hRA7
    have e0 : w7.cell? ⟨E, 0, none⟩ = some (.int .i64 y) := (cell_of_row _ _ _ _ _ _ hRE7).trans rfl
    have a1 : w7.cell? ⟨A, 1, none⟩ = some (.int .i64 m) := (cell_of_row _ _ _ _ _ _ hRA7).trans rfl
    have f1 := frozen_of_row w7 A 1 _ 23 hRA7
    have e1 : w7.cell? ⟨E, 1, none⟩ = some (.int .i64 (m + 1)) := (cell_of_row _ _ _ _ _ _ hRE7).trans rfl
    have a2 : w7.cell? ⟨A, 2, none⟩ = some (.int .i64 (d + 1)) := (cell_of_row _ _ _ _ _ _ hRA7).trans rfl
    have f2 := frozen_of_row w7 A 2 _ 23 hRA7
    have e2 : w7.cell? ⟨E, 2, none⟩ = some (.int .i64 1) := (cell_of_row _ _ _ _ _ _ hRE7).trans rfl
    have a3 : w7.cell? ⟨A, 3, none⟩ = some (.int .i64 0) := (cell_of_row _ _ _ _ _ _ hRA7).trans rfl
    have f3 := frozen_of_row w7 A 3 _ 23 hRA7
    have e3 : w7.cell? ⟨E, 3, none⟩ = some (.int .i64 0) := (cell_of_row _ _ _ _ _ _ hRE7).trans rfl
    have a4 : w7.cell? ⟨A, 4, none⟩ = some (.int .i64 0) := (cell_of_row _ _ _ _ _ _ hRA7).trans rfl
    have f4 := frozen_of_row w7 A 4 _ 23 hRA7
    have e4 : w7.cell? ⟨E, 4, none⟩ = some (.int .i64 0) := (cell_of_row _ _ _ _ _ _ hRE7).trans rfl
    have a5 : w7.cell? ⟨A, 5, none⟩ = some (.int .i64 ((wd + 1) % 7)) := (cell_of_row _ _ _ _ _ _ hRA7).trans rfl
    have f5 := frozen_of_row w7 A 5 _ 23 hRA7
    have e5 : w7.cell? ⟨E, 5, none⟩ = some (.int .i64 ((wd + 1) % 7)) := (cell_of_row _ _ _ _ _ _ hRE7).trans rfl
    have HRA7 := Hid.mk' hRA7
    have HRE7 := Hid.mk' hRE7
    clear hRA7 hRE7
    go_quiet (first | exact Calls.quiet_of_same (days_any y m _ (HT.out.below (below_drewN HB7.out _))) | exact Calls.quiet_of_same (days_any y m _ (HT.out.below HB7.out)))
    go_upto_region 23 with (fail)
    obtain ⟨w8, hw8⟩ : ∃ w8, w8 = (((w7.drewN nq).setCell ⟨A, 2, none⟩ (.int .i64 1)).setCell ⟨A, 1, none⟩ (.int .i64 (m + 1))) := ⟨_, rfl⟩
    rw [← hw8]
    have hRA8 : w8.heap[A]? = some (.cells #[.int .i64 y, .int .i64 (m + 1), .int .i64 1, .int .i64 0, .int .i64 0, .int .i64 ((wd + 1) % 7)] 23) := by rw [hw8]; exact (heap_setCell_row (w := ((w7.drewN nq).setCell ⟨A, 2, none⟩ (.int .i64 1))) (heap_setCell_row (w := (w7.drewN nq)) HRA7.out 2 (.int .i64 1)) 1 (.int .i64 (m + 1)))
    have hRE8 : w8.heap[E]? = some (.cells #[.int .i64 y, .int .i64 (m + 1), .int .i64 1, .int .i64 0, .int .i64 0, .int .i64 ((wd + 1) % 7)] 23) := by rw [hw8]; exact ((heap_setCell_other (w := ((w7.drewN nq).setCell ⟨A, 2, none⟩ (.int .i64 1))) ⟨A, 1, none⟩ (.int .i64 (m + 1)) HAE.out).trans ((heap_setCell_other (w := (w7.drewN nq)) ⟨A, 2, none⟩ (.int .i64 1) HAE.out).trans HRE7.out))
    have HB8 : Hid (Below w.heap.size w w8) := by rw [hw8]; exact (((below_drewN HB7.out nq).setCell (p := ⟨A, 2, none⟩) HAB.out (.int .i64 1)).setCell (p := ⟨A, 1, none⟩) HAB.out (.int .i64 (m + 1)))
    clear hw8 HRA7 HRE7 HB7 a0 a1 a2 a3 a4 a5 f0 f1 f2 f3 f4 f5 e0 e1 e2 e3 e4 e5
    have a0 : w8.cell? ⟨A, 0, none⟩ = some (.int .i64 y) := (cell_of_row _ _ _ _ _ _ hRA8).trans rfl
    have e0 : w8.cell? ⟨E, 0, none⟩ = some (.int .i64 y) := (cell_of_row _ _ _ _ _ _ hRE8).trans rfl
    have a1 : w8.cell? ⟨A, 1, none⟩ = some (.int .i64 (m + 1)) := (cell_of_row _ _ _ _ _ _ hRA8).trans rfl
    have e1 : w8.cell? ⟨E, 1, none⟩ = some (.int .i64 (m + 1)) := (cell_of_row _ _ _ _ _ _ hRE8).trans rfl
    have a2 : w8.cell? ⟨A, 2, none⟩ = some (.int .i64 1) := (cell_of_row _ _ _ _ _ _ hRA8).trans rfl
    have e2 : w8.cell? ⟨E, 2, none⟩ = some (.int .i64 1) := (cell_of_row _ _ _ _ _ _ hRE8).trans rfl
    have a3 : w8.cell? ⟨A, 3, none⟩ = some (.int .i64 0) := (cell_of_row _ _ _ _ _ _ hRA8).trans rfl
    have e3 : w8.cell? ⟨E, 3, none⟩ = some (.int .i64 0) := (cell_of_row _ _ _ _ _ _ hRE8).trans rfl
    have a4 : w8.cell? ⟨A, 4, none⟩ = some (.int .i64 0) := (cell_of_row _ _ _ _ _ _ hRA8).trans rfl
    have e4 : w8.cell? ⟨E, 4, none⟩ = some (.int .i64 0) := (cell_of_row _ _ _ _ _ _ hRE8).trans rfl
    have a5 : w8.cell? ⟨A, 5, none⟩ = some (.int .i64 ((wd + 1) % 7)) := (cell_of_row _ _ _ _ _ _ hRA8).trans rfl
    have e5 : w8.cell? ⟨E, 5, none⟩ = some (.int .i64 ((wd + 1) % 7)) := (cell_of_row _ _ _ _ _ _ hRE8).trans rfl
    clear hRA8 hRE8
    go_wp2
    go_ret
    exact ⟨rfl, HB8.out⟩
  · subst g1 g2 g4 q0 q1 q2 q3 q4 q5
    go_wp2_with fail
    obtain ⟨w7, hw7⟩ : ∃ w7, w7 = ((((((w6.setCell ⟨A, 4, none⟩ (.int .i64 60)).setCell ⟨A, 4, none⟩ (.int .i64 0)).setCell ⟨A, 3, none⟩ (.int .i64 24)).setCell ⟨A, 3, none⟩ (.int .i64 0)).setCell ⟨A, 2, none⟩ (.int .i64 (d + 1))).setCell ⟨A, 5, none⟩ (.int .i64 ((wd + 1) % 7))) := ⟨_, rfl⟩
    rw [← hw7]
    have hRA7 : w7.heap[A]? = some (.cells #[.int .i64 y, .int .i64 12, .int .i64 (d + 1), .int .i64 0, .int .i64 0, .int .i64 ((wd + 1) % 7)] 23) := by rw [hw7]; exact (heap_setCell_row (heap_setCell_row (heap_setCell_row (heap_setCell_row (heap_setCell_row (heap_setCell_row HRA.out 4 (.int .i64 60)) 4 (.int .i64 0)) 3 (.int .i64 24)) 3 (.int .i64 0)) 2 (.int .i64 (d + 1))) 5 (.int .i64 ((wd + 1) % 7)))
    have hRE7 : w7.heap[E]? = some (.cells #[.int .i64 (y + 1), .int .i64 1, .int .i64 1, .int .i64 0, .int .i64 0, .int .i64 ((wd + 1) % 7)] 23) := by rw [hw7]; exact ((heap_setCell_other ⟨A, 5, none⟩ (.int .i64 ((wd + 1) % 7)) HAE.out).trans ((heap_setCell_other ⟨A, 2, none⟩ (.int .i64 (d + 1)) HAE.out).trans ((heap_setCell_other ⟨A, 3, none⟩ (.int .i64 0) HAE.out).trans ((heap_setCell_other ⟨A, 3, none⟩ (.int .i64 24) HAE.out).trans ((heap_setCell_other ⟨A, 4, none⟩ (.int .i64 0) HAE.out).trans ((heap_setCell_other ⟨A, 4, none⟩ (.int .i64 60) HAE.out).trans HRE.out))))))
    have HB7 : Hid (Below w.heap.size w w7) := by rw [hw7]; exact ((((((HB6.out.setCell (p := ⟨A, 4, none⟩) HAB.out (.int .i64 60)).setCell (p := ⟨A, 4, none⟩) HAB.out (.int .i64 0)).setCell (p := ⟨A, 3, none⟩) HAB.out (.int .i64 24)).setCell (p := ⟨A, 3, none⟩) HAB.out (.int .i64 0)).setCell (p := ⟨A, 2, none⟩) HAB.out (.int .i64 (d + 1))).setCell (p := ⟨A, 5, none⟩) HAB.out (.int .i64 ((wd + 1) % 7)))
    clear hw7 HRA HRE HB6 a0 a1 a2 a3 a4 a5 f0 f1 f2 f3 f4 f5
    have a0 : w7.cell? ⟨A, 0, none⟩ = some (.int .i64 y) := (cell_of_row _ _ _ _ _ _ hRA7).trans rfl
    have f0 := frozen_of_row w7 A 0 _ 23 hRA7
    have e0 : w7.cell? ⟨E, 0, none⟩ = some (.int .i64 (y + 1)) := (cell_of_row _ _ _ _ _ _ hRE7).trans rfl
    have a1 : w7.cell? ⟨A, 1, none⟩ = some (.int .i64 12) := (cell_of_row _ _ _ _ _ _ hRA7).trans rfl
    have f1 := frozen_of_row w7 A 1 _ 23 hRA7
    have e1 : w7.cell? ⟨E, 1, none⟩ = some (.int .i64 1) := (cell_of_row _ _ _ _ _ _ hRE7).trans rfl
    have a2 : w7.cell? ⟨A, 2, none⟩ = some (.int .i64 (d + 1)) := (cell_of_row _ _ _ _ _ _ hRA7).trans rfl
    have f2 := frozen_of_row w7 A 2 _ 23 hRA7
    have e2 : w7.cell? ⟨E, 2, none⟩ = some (.int .i64 1) := (cell_of_row _ _ _ _ _ _ hRE7).trans rfl
    have a3 : w7.cell? ⟨A, 3, none⟩ = some (.int .i64 0) := (cell_of_row _ _ _ _ _ _ hRA7).trans rfl
    have f3 := frozen_of_row w7 A 3 _ 23 hRA7
    have e3 : w7.cell? ⟨E, 3, none⟩ = some (.int .i64 0) := (cell_of_row _ _ _ _ _ _ hRE7).trans rfl
    have a4 : w7.cell? ⟨A, 4, none⟩ = some (.int .i64 0) := (cell_of_row _ _ _ _ _ _ hRA7).trans rfl
    have f4 := frozen_of_row w7 A 4 _ 23 hRA7
    have e4 : w7.cell? ⟨E, 4, none⟩ = some (.int .i64 0) := (cell_of_row _ _ _ _ _ _ hRE7).trans rfl
    have a5 : w7.cell? ⟨A, 5, none⟩ = some (.int .i64 ((wd + 1) % 7)) := (cell_of_row _ _ _ _ _ _ hRA7).trans rfl
    have f5 := frozen_of_row w7 A 5 _ 23 hRA7
    have e5 : w7.cell? ⟨E, 5, none⟩ = some (.int .i64 ((wd + 1) % 7)) := (cell_of_row _ _ _ _ _ _ hRE7).trans rfl
    have HRA7 := Hid.mk' hRA7
    have HRE7 := Hid.mk' hRE7
    clear hRA7 hRE7
    go_quiet (first | exact Calls.quiet_of_same (days_any y 12 _ (HT.out.below (below_drewN HB7.out _))) | exact Calls.quiet_of_same (days_any y 12 _ (HT.out.below HB7.out)))
    go_upto_region 23 with (fail)
    obtain ⟨w8, hw8⟩ : ∃ w8, w8 = (((((w7.drewN nq).setCell ⟨A, 2, none⟩ (.int .i64 1)).setCell ⟨A, 1, none⟩ (.int .i64 13)).setCell ⟨A, 1, none⟩ (.int .i64 1)).setCell ⟨A, 0, none⟩ (.int .i64 (y + 1))) := ⟨_, rfl⟩
    rw [← hw8]
    have hRA8 : w8.heap[A]? = some (.cells #[.int .i64 (y + 1), .int .i64 1, .int .i64 1, .int .i64 0, .int .i64 0, .int .i64 ((wd + 1) % 7)] 23) := by rw [hw8]; exact (heap_setCell_row (w := ((((w7.drewN nq).setCell ⟨A, 2, none⟩ (.int .i64 1)).setCell ⟨A, 1, none⟩ (.int .i64 13)).setCell ⟨A, 1, none⟩ (.int .i64 1))) (heap_setCell_row (w := (((w7.drewN nq).setCell ⟨A, 2, none⟩ (.int .i64 1)).setCell ⟨A, 1, none⟩ (.int .i64 13))) (heap_setCell_row (w := ((w7.drewN nq).setCell ⟨A, 2, none⟩ (.int .i64 1))) (heap_setCell_row (w := (w7.drewN nq)) HRA7.out 2 (.int .i64 1)) 1 (.int .i64 13)) 1 (.int .i64 1)) 0 (.int .i64 (y + 1)))
    have hRE8 : w8.heap[E]? = some (.cells #[.int .i64 (y + 1), .int .i64 1, .int .i64 1, .int .i64 0, .int .i64 0, .int .i64 ((wd + 1) % 7)] 23) := by rw [hw8]; exact ((heap_setCell_other (w := ((((w7.drewN nq).setCell ⟨A, 2, none⟩ (.int .i64 1)).setCell ⟨A, 1, none⟩ (.int .i64 13)).setCell ⟨A, 1, none⟩ (.int .i64 1))) ⟨A, 0, none⟩ (.int .i64 (y + 1)) HAE.out).trans ((heap_setCell_other (w := (((w7.drewN nq).setCell ⟨A, 2, none⟩ (.int .i64 1)).setCell ⟨A, 1, none⟩ (.int .i64 13))) ⟨A, 1, none⟩ (.int .i64 1) HAE.out).trans ((heap_setCell_other (w := ((w7.drewN nq).setCell ⟨A, 2, none⟩ (.int .i64 1))) ⟨A, 1, none⟩ (.int .i64 13) HAE.out).trans ((heap_setCell_other (w := (w7.drewN nq)) ⟨A, 2, none⟩ (.int .i64 1) HAE.out).trans HRE7.out))))
    have HB8 : Hid (Below w.heap.size w w8) := by rw [hw8]; exact (((((below_drewN HB7.out nq).setCell (p := ⟨A, 2, none⟩) HAB.out (.int .i64 1)).setCell (p := ⟨A, 1, none⟩) HAB.out (.int .i64 13)).setCell (p := ⟨A, 1, none⟩) HAB.out (.int .i64 1)).setCell (p := ⟨A, 0, none⟩) HAB.out (.int .i64 (y + 1)))
    clear hw8 HRA7 HRE7 HB7 a0 a1 a2 a3 a4 a5 f0 f1 f2 f3 f4 f5 e0 e1 e2 e3 e4 e5
    have a0 : w8.cell? ⟨A, 0, none⟩ = some (.int .i64 (y + 1)) := (cell_of_row _ _ _ _ _ _ hRA8).trans rfl
    have e0 : w8.cell? ⟨E, 0, none⟩ = some (.int .i64 (y + 1)) := (cell_of_row _ _ _ _ _ _ hRE8).trans rfl
    have a1 : w8.cell? ⟨A, 1, none⟩ = some (.int .i64 1) := (cell_of_row _ _ _ _ _ _ hRA8).trans rfl
    have e1 : w8.cell? ⟨E, 1, none⟩ = some (.int .i64 1) := (cell_of_row _ _ _ _ _ _ hRE8).trans rfl
    have a2 : w8.cell? ⟨A, 2, none⟩ = some (.int .i64 1) := (cell_of_row _ _ _ _ _ _ hRA8).trans rfl
    have e2 : w8.cell? ⟨E, 2, none⟩ = some (.int .i64 1) := (cell_of_row _ _ _ _ _ _ hRE8).trans rfl
    have a3 : w8.cell? ⟨A, 3, none⟩ = some (.int .i64 0) := (cell_of_row _ _ _ _ _ _ hRA8).trans rfl
    have e3 : w8.cell? ⟨E, 3, none⟩ = some (.int .i64 0) := (cell_of_row _ _ _ _ _ _ hRE8).trans rfl
    have a4 : w8.cell? ⟨A, 4, none⟩ = some (.int .i64 0) := (cell_of_row _ _ _ _ _ _ hRA8).trans rfl
    have e4 : w8.cell? ⟨E, 4, none⟩ = some (.int .i64 0) := (cell_of_row _ _ _ _ _ _ hRE8).trans rfl
    have a5 : w8.cell? ⟨A, 5, none⟩ = some (.int .i64 ((wd + 1) % 7)) := (cell_of_row _ _ _ _ _ _ hRA8).trans rfl
    have e5 : w8.cell? ⟨E, 5, none⟩ = some (.int .i64 ((wd + 1) % 7)) := (cell_of_row _ _ _ _ _ _ hRE8).trans rfl
    clear hRA8 hRE8
    go_wp2
    go_ret
    exact ⟨rfl, HB8.out⟩
end Go.Proofs.YthkfjaegnalakaaDoor
