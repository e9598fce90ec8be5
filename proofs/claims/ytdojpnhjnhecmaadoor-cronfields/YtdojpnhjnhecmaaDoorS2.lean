/- Matches; the hops. -/
import Derived.Test.YtdojpnhjnhecmaaDoorS1
import Derived.Test.YtdojpnhjnhecmaaDoorC5
namespace Go.Proofs.YtdojpnhjnhecmaaDoor
open Go Go.RowKit
theorem two_boxes {w w3 : World} {a b : Array Value} {s t : TypeId} (hb : Below ((w.alloc (.cells a s)).alloc (.cells b t)).heap.size ((w.alloc (.cells a s)).alloc (.cells b t)) w3) :
    w3.heap[w.heap.size]? = some (.cells a s) ∧ w3.heap[w.heap.size + 1]? = some (.cells b t) ∧ w.heap.size + 1 < w3.heap.size ∧ Below w.heap.size w w3 := by
  have hz := hb.size
  simp at hz
  refine ⟨(hb.block _ (by simp; omega)).trans ?_, (hb.block _ (by simp)).trans ?_, by omega, (((Below.refl _ _).alloc (Nat.le_refl _) _).alloc (by simp) _).trans (hb.mono (by simp; omega))⟩
  · rw [heap_alloc_old _ _ (by simp)]; exact heap_alloc_new w _
  · have := heap_alloc_new (w.alloc (.cells a s)) (.cells b t)
    rwa [show (w.alloc (.cells a s)).heap.size = w.heap.size + 1 by simp] at this
set_option maxHeartbeats 1000000 in
theorem later_month (e : Exp) (he : e.Ok) (n y m d h mi wd : Int) (hA : IsAt n y m d h mi wd) (w : World) (hT : HasT w) (hM : e.mo.testBit m.toNat = false) :
    Calls Tryd.prog 37 #[expV e, dateV y m d h mi wd] w fun r w' => (∃ s, r = .returned (.int .i64 s) ∧ HopF e n s (okAt e m d h mi wd)) ∧ Below w.heap.size w w' := by
  obtain ⟨m1, m2, d1, d2, d3, d4, q1, q2, q3, q4, q5, q6⟩ := hA.bd
  have hmo : ∀ W, Calls Tryd.prog 44 #[.int .u64 e.mo, .int .i64 m] W _ := fun W => allows_int e.mo m W (by have := he.mo; omega) (by omega) (by omega)
  rw [hM] at hmo
  have hdays : ∀ (o1 o2 : Obj) (k : Nat), Calls Tryd.prog 62 #[.int .i64 y, .int .i64 m] (((w.alloc o1).alloc o2).drewN k) _ := fun o1 o2 k => days_any y m _ (HasT.keep (hT.below (((Below.refl _ _).alloc (Nat.le_refl _) o1).alloc (by simp) o2)) fun _ _ _ _ h => h)
  have HH := Hid.mk'' (hop_month hA hM)
  clear he hA hT hM
  unfold expV
  generalize mdays y m = M at *
  go_enter Tryd.func37, Tryd.ntmps37
  go_wp2_with (go_at_call 44; refine (hmo _).mono ?_; rintro e' w1 ⟨rfl, rfl⟩)
  go_quiet ((go_at_call 62; with_reducible exact Calls.quiet_of_same (hdays _ _ _)))
  go_wp2
  go_ret
  exact ⟨⟨_, rfl, HH.out⟩, below_drewN (((Below.refl _ _).alloc (Nat.le_refl _) _).alloc (by simp) _) _⟩
set_option maxHeartbeats 1000000 in
theorem later_any (e : Exp) (he : e.Ok) (n y m d h mi wd : Int) (hA : IsAt n y m d h mi wd) (w : World) (hT : HasT w) :
    Calls Tryd.prog 37 #[expV e, dateV y m d h mi wd] w fun r w' => (∃ s, r = .returned (.int .i64 s) ∧ HopF e n s (okAt e m d h mi wd)) ∧ Below w.heap.size w w' := by
  cases hM : e.mo.testBit m.toNat with
  | false => exact later_month e he n y m d h mi wd hA w hT hM
  | true =>
  obtain ⟨m1, m2, d1, d2, d3, d4, q1, q2, q3, q4, q5, q6⟩ := hA.bd
  have hmo : ∀ W, Calls Tryd.prog 44 #[.int .u64 e.mo, .int .i64 m] W _ := fun W => allows_int e.mo m W (by have := he.mo; omega) (by omega) (by omega)
  rw [hM] at hmo
  have hday : ∀ W, Calls Tryd.prog 45 #[expV e, dateV y m d h mi wd] W _ := fun W => day_any e he y m d h mi wd W (by omega) (by omega) (by omega) (by omega)
  have hH : ∀ W, HasT W → Calls Tryd.prog 63 #[.int .u64 e.ho, .int .i64 h, .int .i64 24] W _ := fun W hW => lackF_int e.ho h 24 W hW (by have := he.ho; omega) q1 (by omega) (by omega)
  have hMi : ∀ W, HasT W → Calls Tryd.prog 63 #[.int .u64 e.mi, .int .i64 mi, .int .i64 60] W _ := fun W hW => lackF_int e.mi mi 60 W hW (by have := he.mi; omega) q3 (by omega) (by omega)
  cases hD : dayOk e d wd with
  | false =>
    have HH := Hid.mk'' (hop_day hA hD)
    rw [hD] at hday
    clear he hA hT hM hH hMi hD
    unfold expV at *
    go_enter Tryd.func37, Tryd.ntmps37
    go_wp2_with (first | (go_at_call 44; refine (hmo _).mono ?_; rintro e' w1 ⟨rfl, rfl⟩) | (go_at_call 45; refine (hday _).mono ?_; rintro e' w2 ⟨rfl, hb⟩))
    go_ret
    exact ⟨⟨_, rfl, HH.out⟩, (two_boxes hb).2.2.2⟩
  | true =>
    have HT : Hid (∀ w3, Below w.heap.size w w3 → HasT w3) := fun w3 h => hT.below h
    have H1 := Hid.mk'' (fun s (hs : LackF e.ho h 24 s) (h0 : 0 < s) => hop_hour (e := e) hA hs h0)
    have H2 := Hid.mk'' (fun s (hh : LackF e.ho h 24 0) (hs : LackF e.mi mi 60 s) => hop_min (e := e) hA hM hD hh hs)
    rw [hD] at hday
    clear he hA hT hM hD
    have HH := Hid.mk'' hH
    have HM := Hid.mk'' hMi
    clear hH hMi
    unfold expV at *
    go_enter Tryd.func37, Tryd.ntmps37
    go_wp2_with (first | (go_at_call 44; refine (hmo _).mono ?_; rintro e' w1 ⟨rfl, rfl⟩))
    refine (hday _).mono ?_
    rintro e' w3 ⟨rfl, hb⟩
    obtain ⟨r1, r2, hz, hB⟩ := two_boxes hb
    have HB := Hid.mk'' hB
    have hh := HH.out w3 (HT.out w3 hB)
    have hm := HM.out w3 (HT.out w3 hB)
    have k1 : w3.cell? ⟨w.heap.size, 1, none⟩ = some (.int .u64 e.ho) := cell_of_row _ _ _ _ _ _ r1
    have k0 : w3.cell? ⟨w.heap.size, 0, none⟩ = some (.int .u64 e.mi) := cell_of_row _ _ _ _ _ _ r1
    have j3 : w3.cell? ⟨w.heap.size + 1, 3, none⟩ = some (.int .i64 h) := cell_of_row _ _ _ _ _ _ r2
    have j4 : w3.cell? ⟨w.heap.size + 1, 4, none⟩ = some (.int .i64 mi) := cell_of_row _ _ _ _ _ _ r2
    clear hb hB r1 r2 HH HM hday hmo HT hz
    go_wp2_with fail
    refine hh.mono ?_
    rintro e' w4 ⟨⟨s, rfl, hs⟩, rfl⟩
    have s0 := hs.ge
    have s1 := hs.le
    by_cases hs0 : 0 < s
    · have HP := Hid.mk'' (H1.out s hs hs0)
      clear hs
      go_wp2_with fail
      go_ret
      exact ⟨⟨_, rfl, HP.out⟩, HB.out⟩
    · obtain rfl : s = 0 := by omega
      have HS := Hid.mk'' hs
      clear hs hs0 s0 s1
      go_wp2_with fail
      refine hm.mono ?_
      rintro e' w5 ⟨⟨s, rfl, hs⟩, rfl⟩
      have HP := Hid.mk'' (H2.out s HS.out hs)
      clear hs
      go_wp2_with fail
      go_ret
      exact ⟨⟨_, rfl, HP.out⟩, HB.out⟩
set_option maxHeartbeats 1000000 in
theorem earlier_any (e : Exp) (he : e.Ok) (n y m d h mi wd : Int) (hA : IsAt n y m d h mi wd) (w : World)  :
    Calls Tryd.prog 42 #[expV e, dateV y m d h mi wd] w fun r w' => (∃ s, r = .returned (.int .i64 s) ∧ HopB e n s (okAt e m d h mi wd)) ∧ Below w.heap.size w w' := by
  cases hM : e.mo.testBit m.toNat with
  | false =>
    obtain ⟨m1, m2, d1, d2, d3, d4, q1, q2, q3, q4, q5, q6⟩ := hA.bd
    have hmo : ∀ W, Calls Tryd.prog 44 #[.int .u64 e.mo, .int .i64 m] W _ := fun W => allows_int e.mo m W (by have := he.mo; omega) (by omega) (by omega)
    rw [hM] at hmo
    have HH := Hid.mk'' (back_month hA hM)
    clear he hA hM
    unfold expV
    go_enter Tryd.func42, Tryd.ntmps42
    go_wp2_with (go_at_call 44; refine (hmo _).mono ?_; rintro e' w1 ⟨rfl, rfl⟩)
    go_ret
    exact ⟨⟨_, rfl, HH.out⟩, ((Below.refl _ _).alloc (Nat.le_refl _) _).alloc (by simp) _⟩
  | true =>
  obtain ⟨m1, m2, d1, d2, d3, d4, q1, q2, q3, q4, q5, q6⟩ := hA.bd
  have hmo : ∀ W, Calls Tryd.prog 44 #[.int .u64 e.mo, .int .i64 m] W _ := fun W => allows_int e.mo m W (by have := he.mo; omega) (by omega) (by omega)
  rw [hM] at hmo
  have hday : ∀ W, Calls Tryd.prog 45 #[expV e, dateV y m d h mi wd] W _ := fun W => day_any e he y m d h mi wd W (by omega) (by omega) (by omega) (by omega)
  have hH : ∀ W, Calls Tryd.prog 66 #[.int .u64 e.ho, .int .i64 h] W _ := fun W => lackD_int e.ho h W q1 (by omega)
  have hMi : ∀ W, Calls Tryd.prog 66 #[.int .u64 e.mi, .int .i64 mi] W _ := fun W => lackD_int e.mi mi W q3 (by omega)
  cases hD : dayOk e d wd with
  | false =>
    have HH := Hid.mk'' (back_day hA hD)
    rw [hD] at hday
    clear he hA hM hH hMi hD
    unfold expV at *
    go_enter Tryd.func42, Tryd.ntmps42
    go_wp2_with (first | (go_at_call 44; refine (hmo _).mono ?_; rintro e' w1 ⟨rfl, rfl⟩) | (go_at_call 45; refine (hday _).mono ?_; rintro e' w2 ⟨rfl, hb⟩))
    go_ret
    exact ⟨⟨_, rfl, HH.out⟩, (two_boxes hb).2.2.2⟩
  | true =>
    have H1 := Hid.mk'' (fun s (hs : LackD e.ho h s) (h0 : 0 < s) => back_hour (e := e) hA hs h0)
    have H2 := Hid.mk'' (fun s (hh : LackD e.ho h 0) (hs : LackD e.mi mi s) => back_min (e := e) hA hM hD hh hs)
    rw [hD] at hday
    clear he hA hM hD
    have HH := Hid.mk'' hH
    have HM := Hid.mk'' hMi
    clear hH hMi
    unfold expV at *
    go_enter Tryd.func42, Tryd.ntmps42
    go_wp2_with (first | (go_at_call 44; refine (hmo _).mono ?_; rintro e' w1 ⟨rfl, rfl⟩))
    refine (hday _).mono ?_
    rintro e' w3 ⟨rfl, hb⟩
    obtain ⟨r1, r2, hz, hB⟩ := two_boxes hb
    have HB := Hid.mk'' hB
    have hh := HH.out w3
    have hm := HM.out w3
    have k1 : w3.cell? ⟨w.heap.size, 1, none⟩ = some (.int .u64 e.ho) := cell_of_row _ _ _ _ _ _ r1
    have k0 : w3.cell? ⟨w.heap.size, 0, none⟩ = some (.int .u64 e.mi) := cell_of_row _ _ _ _ _ _ r1
    have j3 : w3.cell? ⟨w.heap.size + 1, 3, none⟩ = some (.int .i64 h) := cell_of_row _ _ _ _ _ _ r2
    have j4 : w3.cell? ⟨w.heap.size + 1, 4, none⟩ = some (.int .i64 mi) := cell_of_row _ _ _ _ _ _ r2
    clear hb hB r1 r2 HH HM hday hmo hz
    go_wp2_with fail
    refine hh.mono ?_
    rintro e' w4 ⟨⟨s, rfl, hs⟩, rfl⟩
    have s0 := hs.ge
    have s1 := hs.le
    by_cases hs0 : 0 < s
    · have HP := Hid.mk'' (H1.out s hs hs0)
      clear hs
      go_wp2_with fail
      go_ret
      exact ⟨⟨_, rfl, HP.out⟩, HB.out⟩
    · obtain rfl : s = 0 := by omega
      have HS := Hid.mk'' hs
      clear hs hs0 s0 s1
      go_wp2_with fail
      refine hm.mono ?_
      rintro e' w5 ⟨⟨s, rfl, hs⟩, rfl⟩
      have HP := Hid.mk'' (H2.out s HS.out hs)
      have s0 := hs.ge
      have s1 := hs.le
      clear hs
      go_wp2_with fail
      go_ret
      exact ⟨⟨_, rfl, HP.out⟩, HB.out⟩
set_option maxHeartbeats 1000000 in
theorem matches_no (e : Exp) (n : Int) (w : World) (hn : n < -1035593280 ∨ 4223371679 < n) : Calls Tryd.prog 19 #[expV e, .int .i64 n] w fun r w' => r = .returned (.bool false) ∧ Below w.heap.size w w' := by
  have hof : ∀ o, Calls Tryd.prog 23 #[.int .i64 n] (w.alloc o) _ := fun o => of_no n (w.alloc o) hn
  unfold expV
  go_enter Tryd.func19, Tryd.ntmps19
  go_wp2_with fail
  refine (hof _).mono ?_
  rintro e' w2 ⟨rfl, hb⟩
  have HB : Hid (Below w.heap.size w w2) := ((Below.refl _ _).alloc (Nat.le_refl _) _).trans (hb.mono (by simp))
  clear hb hof
  go_wp2_with fail
  go_ret
  exact ⟨rfl, HB.out.alloc HB.out.size _⟩
theorem one_box {w w3 : World} {a : Array Value} {s : TypeId} (hb : Below (w.alloc (.cells a s)).heap.size (w.alloc (.cells a s)) w3) :
    w3.heap[w.heap.size]? = some (.cells a s) ∧ w.heap.size < w3.heap.size ∧ Below w.heap.size w w3 := by
  have hz := hb.size
  simp at hz
  exact ⟨(hb.block _ (by simp)).trans (heap_alloc_new w _), by omega, ((Below.refl _ _).alloc (Nat.le_refl _) _).trans (hb.mono (by simp))⟩
set_option maxHeartbeats 1000000 in
theorem matches_at (e : Exp) (he : e.Ok) (n y m d h mi wd : Int) (hA : IsAt n y m d h mi wd) (h0 : -1035593280 ≤ n) (h1 : n ≤ 4223371679) (w : World) (hT : HasT w) :
    Calls Tryd.prog 19 #[expV e, .int .i64 n] w fun r w' => r = .returned (.bool (okAt e m d h mi wd)) ∧ Below w.heap.size w w' := by
  obtain ⟨m1, m2, d1, d2, d3, d4, q1, q2, q3, q4, q5, q6⟩ := hA.bd
  have hof : ∀ o, Calls Tryd.prog 23 #[.int .i64 n] (w.alloc o) _ := fun o => of_at hA (w.alloc o) (hT.below ((Below.refl _ _).alloc (Nat.le_refl _) o)) h0 h1
  have a1 : ∀ W, Calls Tryd.prog 44 #[.int .u64 e.mi, .int .i64 mi] W _ := fun W => allows_int e.mi mi W (by have := he.mi; omega) (by omega) (by omega)
  have a2 : ∀ W, Calls Tryd.prog 44 #[.int .u64 e.ho, .int .i64 h] W _ := fun W => allows_int e.ho h W (by have := he.ho; omega) (by omega) (by omega)
  have a3 : ∀ W, Calls Tryd.prog 44 #[.int .u64 e.mo, .int .i64 m] W _ := fun W => allows_int e.mo m W (by have := he.mo; omega) (by omega) (by omega)
  have a4 : ∀ W, Calls Tryd.prog 45 #[expV e, dateV y m d h mi wd] W _ := fun W => day_any e he y m d h mi wd W (by omega) (by omega) (by omega) (by omega)
  have HK : Hid (okAt e m d h mi wd = (e.mi.testBit mi.toNat && e.ho.testBit h.toNat && e.mo.testBit m.toNat && dayOk e d wd)) := rfl
  clear hA he hT
  generalize okAt e m d h mi wd = r at *
  generalize e.mi.testBit mi.toNat = b1 at *
  generalize e.ho.testBit h.toNat = b2 at *
  generalize e.mo.testBit m.toNat = b3 at *
  generalize dayOk e d wd = b4 at *
  unfold expV at *
  go_enter Tryd.func19, Tryd.ntmps19
  go_wp2_with fail
  refine (hof _).mono ?_
  rintro e' w2 ⟨rfl, hb⟩
  obtain ⟨r1, hz, hB⟩ := one_box hb
  have HB := Hid.mk'' hB
  clear hb hB hof
  have k0 : w2.cell? ⟨w.heap.size, 0, none⟩ = some (.int .u64 e.mi) := cell_of_row _ _ _ _ _ _ r1
  have k1 : w2.cell? ⟨w.heap.size, 1, none⟩ = some (.int .u64 e.ho) := cell_of_row _ _ _ _ _ _ r1
  have k2 : w2.cell? ⟨w.heap.size, 2, none⟩ = some (.int .u64 e.da) := cell_of_row _ _ _ _ _ _ r1
  have k3 : w2.cell? ⟨w.heap.size, 3, none⟩ = some (.int .u64 e.mo) := cell_of_row _ _ _ _ _ _ r1
  have k4 : w2.cell? ⟨w.heap.size, 4, none⟩ = some (.int .u64 e.wk) := cell_of_row _ _ _ _ _ _ r1
  have k5 : w2.cell? ⟨w.heap.size, 5, none⟩ = some (.bool e.ad) := cell_of_row _ _ _ _ _ _ r1
  have k6 : w2.cell? ⟨w.heap.size, 6, none⟩ = some (.bool e.aw) := cell_of_row _ _ _ _ _ _ r1
  clear r1
  cases b1 with
  | false =>
    go_wp2_with (go_at_call 44; first | (with_reducible refine (a1 _).mono ?_; rintro e' w3 ⟨rfl, rfl⟩) | (with_reducible refine (a2 _).mono ?_; rintro e' w3 ⟨rfl, rfl⟩) | (with_reducible refine (a3 _).mono ?_; rintro e' w3 ⟨rfl, rfl⟩))
    go_ret
    exact ⟨ret_bool (by rw [HK.out]; rfl), HB.out.alloc HB.out.size _⟩
  | true =>
  cases b2 with
  | false =>
    go_wp2_with (go_at_call 44; first | (with_reducible refine (a1 _).mono ?_; rintro e' w3 ⟨rfl, rfl⟩) | (with_reducible refine (a2 _).mono ?_; rintro e' w3 ⟨rfl, rfl⟩) | (with_reducible refine (a3 _).mono ?_; rintro e' w3 ⟨rfl, rfl⟩))
    go_ret
    exact ⟨ret_bool (by rw [HK.out]; rfl), HB.out.alloc HB.out.size _⟩
  | true =>
  cases b3 with
  | false =>
    go_wp2_with (go_at_call 44; first | (with_reducible refine (a1 _).mono ?_; rintro e' w3 ⟨rfl, rfl⟩) | (with_reducible refine (a2 _).mono ?_; rintro e' w3 ⟨rfl, rfl⟩) | (with_reducible refine (a3 _).mono ?_; rintro e' w3 ⟨rfl, rfl⟩))
    go_ret
    exact ⟨ret_bool (by rw [HK.out]; rfl), HB.out.alloc HB.out.size _⟩
  | true =>
    go_wp2_with (go_at_call 44; first | (with_reducible refine (a1 _).mono ?_; rintro e' w3 ⟨rfl, rfl⟩) | (with_reducible refine (a2 _).mono ?_; rintro e' w3 ⟨rfl, rfl⟩) | (with_reducible refine (a3 _).mono ?_; rintro e' w3 ⟨rfl, rfl⟩))
    refine (a4 _).mono ?_
    rintro e' w4 ⟨rfl, hb4⟩
    have HB4 : Hid (Below w.heap.size w w4) := (HB.out.alloc HB.out.size _).trans (hb4.mono (by simp; omega))
    clear hb4
    go_wp2_with fail
    go_ret
    exact ⟨ret_bool (by rw [HK.out]; simp), HB4.out⟩
theorem month_exists (y r : Int) (h0 : 0 ≤ r) (h1 : r < 365 + lp y) : ∃ m, 1 ≤ m ∧ m ≤ 12 ∧ cum y m ≤ r ∧ r < cum y m + mdays y m := by
  have hl := lp_01 y
  by_cases c0 : r < 31
  · exact ⟨1, by decide, by decide, by simp [cum]; omega, by simp [cum, mdays]; omega⟩
  by_cases c1 : r < 59 + lp y
  · exact ⟨2, by decide, by decide, by simp [cum]; omega, by simp [cum, mdays]; omega⟩
  by_cases c2 : r < 90 + lp y
  · exact ⟨3, by decide, by decide, by simp [cum]; omega, by simp [cum, mdays]; omega⟩
  by_cases c3 : r < 120 + lp y
  · exact ⟨4, by decide, by decide, by simp [cum]; omega, by simp [cum, mdays]; omega⟩
  by_cases c4 : r < 151 + lp y
  · exact ⟨5, by decide, by decide, by simp [cum]; omega, by simp [cum, mdays]; omega⟩
  by_cases c5 : r < 181 + lp y
  · exact ⟨6, by decide, by decide, by simp [cum]; omega, by simp [cum, mdays]; omega⟩
  by_cases c6 : r < 212 + lp y
  · exact ⟨7, by decide, by decide, by simp [cum]; omega, by simp [cum, mdays]; omega⟩
  by_cases c7 : r < 243 + lp y
  · exact ⟨8, by decide, by decide, by simp [cum]; omega, by simp [cum, mdays]; omega⟩
  by_cases c8 : r < 273 + lp y
  · exact ⟨9, by decide, by decide, by simp [cum]; omega, by simp [cum, mdays]; omega⟩
  by_cases c9 : r < 304 + lp y
  · exact ⟨10, by decide, by decide, by simp [cum]; omega, by simp [cum, mdays]; omega⟩
  by_cases c10 : r < 334 + lp y
  · exact ⟨11, by decide, by decide, by simp [cum]; omega, by simp [cum, mdays]; omega⟩
  exact ⟨12, by decide, by decide, by simp [cum]; omega, by simp [cum, mdays]; omega⟩
theorem date_exists (day : Int) (h0 : 0 ≤ day) (h1 : day < 3652059) : ∃ y m d, IsDate day y m d := by
  obtain ⟨y, r, g1, g2, g3, g4⟩ : ∃ y r : Int, 1 ≤ y ∧ bef y + r = day ∧ 0 ≤ r ∧ r < 365 + lp y := by
    obtain ⟨g1, g2, g3, g4, _⟩ := spans_of day _ _ _ _ h0 h1 rfl rfl rfl rfl
    exact ⟨_, _, g1, g2, g3, g4⟩
  obtain ⟨m, k1, k2, k3, k4⟩ := month_exists y r g3 g4
  exact ⟨y, m, r - cum y m + 1, g1, k1, k2, by omega, by omega, by omega⟩
theorem at_exists (n : Int) (h0 : -1035593280 ≤ n) (h1 : n ≤ 4223371679) : ∃ y m d h mi wd, IsAt n y m d h mi wd := by
  obtain ⟨y, m, d, hd⟩ := date_exists ((n + 1035593280) / 1440) (by omega) (by omega)
  exact ⟨y, m, d, _, _, _, hd, rfl, rfl, rfl⟩
theorem matches_any (e : Exp) (he : e.Ok) (n : Int) (w : World) (hT : HasT w) :
    Calls Tryd.prog 19 #[expV e, .int .i64 n] w fun r w' => (∃ b, r = .returned (.bool b) ∧ (b = true ↔ Mt e n)) ∧ Below w.heap.size w w' := by
  by_cases hn : n < -1035593280 ∨ 4223371679 < n
  · refine (matches_no e n w hn).mono ?_
    rintro r w' ⟨rfl, hb⟩
    exact ⟨⟨false, rfl, by simp; exact fun h => by have := h.1; have := h.2.1; omega⟩, hb⟩
  · obtain ⟨y, m, d, h, mi, wd, hA⟩ := at_exists n (by omega) (by omega)
    refine (matches_at e he n y m d h mi wd hA (by omega) (by omega) w hT).mono ?_
    rintro r w' ⟨rfl, hb⟩
    exact ⟨⟨_, rfl, (Mt.iff (by omega) (by omega) hA).symm⟩, hb⟩
end Go.Proofs.YtdojpnhjnhecmaaDoor
