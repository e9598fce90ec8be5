/- Of and Minute. -/
import Derived.Test.YtdojpnhjnhecmaaDoorC3
import Derived.Deep.RegionHeldLaw
import Derived.Deep.CutRange
namespace Go.Proofs.YtdojpnhjnhecmaaDoor
open Go Go.RowKit
theorem results_ct {P : Program} {fn : Func} {u q : Tmp} {ty : TypeId} (h : fn.results = #[.cell u ty, .tmp q]) (tmps : Array Value) (w : World) (g : Nat) (t : TypeId) (cs : Array Value) (fr : Nat × Nat) (d : TypeDesc)
    (hp : tmps.getD u undef = .pointer (some ⟨g, 0, none⟩)) (hg : w.heap[g]? = some (.cells cs t fr))
    (hu : P.underlying ty = some d) (hd : (match d with | .struct _ | .array _ _ => true | _ => false) = true) (hi : (P.info? ty).map (·.size) = some cs.size) :
    (results fn tmps).run P w = .ok (.tuple #[.agg cs, tmps.getD q undef]) w := by
  have hp' : tmps[u]?.getD undef = .pointer (some ⟨g, 0, none⟩) := by simpa using hp
  simp [results, h, hp', asAddr, run_loadVar_row w g t ty cs fr d hg hu hd hi]
/-- A minute's date. -/
structure IsAt (n y m d h mi wd : Int) : Prop where
  date : IsDate ((n + 1035593280) / 1440) y m d
  hour : h = (n + 1035593280) % 1440 / 60
  minute : mi = (n + 1035593280) % 60
  wday : wd = ((n + 1035593280) / 1440 + 1) % 7
theorem minute_day {n : Int} (h0 : -1035593280 ≤ n) (h1 : n ≤ 4223371679) : 0 ≤ (n + 1035593280) / 1440 ∧ (n + 1035593280) / 1440 < 3652059 := by omega
set_option maxHeartbeats 1000000 in
theorem of_no (n : Int) (w : World) (hn : n < -1035593280 ∨ 4223371679 < n) :
    Calls Tryd.prog 23 #[.int .i64 n] w fun e w' => e = .returned (.tuple #[dateV 0 0 0 0 0 0, .int .i64 1]) ∧ Below w.heap.size w w' := by
  have HQ := Hid.mk' <| heap_alloc_new w (.cells #[.int .i64 0, .int .i64 0, .int .i64 0, .int .i64 0, .int .i64 0, .int .i64 0] 55)
  rcases hn with hn | hn
  · go_enter Tryd.func23, Tryd.ntmps23
    go_wp2
    refine bodyPost_ret (results_ct rfl _ _ w.heap.size 55 #[.int .i64 0, .int .i64 0, .int .i64 0, .int .i64 0, .int .i64 0, .int .i64 0] (0, 0) _ rfl HQ.out Tryd.underlying55 rfl info23) rfl ?_
    exact ⟨rfl, (Below.refl _ _).alloc (Nat.le_refl _) _⟩
  · have hn' : ¬ n < -1035593280 := by omega
    go_enter Tryd.func23, Tryd.ntmps23
    go_wp2
    refine bodyPost_ret (results_ct rfl _ _ w.heap.size 55 #[.int .i64 0, .int .i64 0, .int .i64 0, .int .i64 0, .int .i64 0, .int .i64 0] (0, 0) _ rfl HQ.out Tryd.underlying55 rfl info23) rfl ?_
    exact ⟨rfl, (Below.refl _ _).alloc (Nat.le_refl _) _⟩
set_option maxHeartbeats 1000000 in
theorem of_yes (n : Int) (w : World) (hT : HasT w) (h0 : -1035593280 ≤ n) (h1 : n ≤ 4223371679) :
    Calls Tryd.prog 23 #[.int .i64 n] w fun e w' => (∃ y m d h mi wd, e = .returned (.tuple #[dateV y m d h mi wd, .int .i64 0]) ∧ IsAt n y m d h mi wd) ∧ Below w.heap.size w w' := by
  have hd0 := minute_day h0 h1
  obtain ⟨s, hs⟩ : ∃ s, s = n + 1035593280 := ⟨_, rfl⟩
  have e0 : n - -1035593280 = s := by omega
  have hs0 : 0 ≤ s ∧ s < 5258964960 := by omega
  rw [← hs] at hd0
  have q1 : s.tdiv 1440 = s / 1440 := Int.tdiv_eq_ediv_of_nonneg hs0.1
  have q2 : s.tmod 1440 = s % 1440 := Int.tmod_eq_emod_of_nonneg hs0.1
  have q3 : s.tmod 60 = s % 60 := Int.tmod_eq_emod_of_nonneg hs0.1
  have q4 : (s % 1440).tdiv 60 = s % 1440 / 60 := Int.tdiv_eq_ediv_of_nonneg (by omega)
  have b4 : 0 ≤ s % 1440 ∧ s % 1440 < 1440 := by omega
  have HS := Hid.mk' hs
  clear hs
  generalize hq : s / 1440 = q at *
  generalize hr : s % 1440 = r at *
  have HQ := Hid.mk' hq
  have HR := Hid.mk' hr
  clear hq hr
  have hdt : ∀ o, Calls Tryd.prog 47 #[.int .i64 q] (w.alloc o) _ := fun o => dateOf_any q (w.alloc o) (hT.below ((Below.refl _ _).alloc (Nat.le_refl _) o)) hd0.1 hd0.2
  go_enter Tryd.func23, Tryd.ntmps23
  go_wp2_with fail
  refine (hdt _).mono ?_
  rintro e w1 ⟨⟨y, m, d, rfl, hdate⟩, hb1⟩
  have HB : Hid (Below w.heap.size w w1) := ((Below.refl _ _).alloc (Nat.le_refl _) _).trans (hb1.mono (by simp))
  have hsz1 : w.heap.size < w1.heap.size := by have := hb1.size; simp at this; omega
  have HROW := Hid.mk' ((hb1.block w.heap.size (by simp)).trans (heap_alloc_new w _))
  clear hb1 hdt
  go_upto_region 7 with (fail)
  obtain ⟨w2, hw2⟩ : ∃ w2, w2 = w1.alloc (.cells #[.int .i64 y, .int .i64 m, .int .i64 d, .int .i64 (r / 60), .int .i64 (s % 60), .int .i64 ((q + 1) % 7)] 55) := ⟨_, rfl⟩
  rw [← hw2]
  have hrow := (heap_alloc_old w1 (.cells #[.int .i64 y, .int .i64 m, .int .i64 d, .int .i64 (r / 60), .int .i64 (s % 60), .int .i64 ((q + 1) % 7)] 55) hsz1).trans HROW.out
  have hbox := heap_alloc_new w1 (.cells #[.int .i64 y, .int .i64 m, .int .i64 d, .int .i64 (r / 60), .int .i64 (s % 60), .int .i64 ((q + 1) % 7)] 55)
  have HB2 := Hid.mk' (HB.out.alloc (Nat.le_of_lt hsz1) (.cells #[.int .i64 y, .int .i64 m, .int .i64 d, .int .i64 (r / 60), .int .i64 (s % 60), .int .i64 ((q + 1) % 7)] 55))
  rw [← hw2] at hrow hbox HB2
  clear hw2
  have k0 : w2.cell? ⟨w1.heap.size, 0, none⟩ = some (.int .i64 y) := (cell_of_row _ _ _ _ _ _ hbox).trans rfl
  have p0 : w2.cell? ⟨w.heap.size, 0, none⟩ = some (.int .i64 0) := (cell_of_row _ _ _ _ _ _ hrow).trans rfl
  have f0 := frozen_of_row w2 w.heap.size 0 _ 55 hrow
  have k1 : w2.cell? ⟨w1.heap.size, 1, none⟩ = some (.int .i64 m) := (cell_of_row _ _ _ _ _ _ hbox).trans rfl
  have p1 : w2.cell? ⟨w.heap.size, 1, none⟩ = some (.int .i64 0) := (cell_of_row _ _ _ _ _ _ hrow).trans rfl
  have f1 := frozen_of_row w2 w.heap.size 1 _ 55 hrow
  have k2 : w2.cell? ⟨w1.heap.size, 2, none⟩ = some (.int .i64 d) := (cell_of_row _ _ _ _ _ _ hbox).trans rfl
  have p2 : w2.cell? ⟨w.heap.size, 2, none⟩ = some (.int .i64 0) := (cell_of_row _ _ _ _ _ _ hrow).trans rfl
  have f2 := frozen_of_row w2 w.heap.size 2 _ 55 hrow
  have k3 : w2.cell? ⟨w1.heap.size, 3, none⟩ = some (.int .i64 (r / 60)) := (cell_of_row _ _ _ _ _ _ hbox).trans rfl
  have p3 : w2.cell? ⟨w.heap.size, 3, none⟩ = some (.int .i64 0) := (cell_of_row _ _ _ _ _ _ hrow).trans rfl
  have f3 := frozen_of_row w2 w.heap.size 3 _ 55 hrow
  have k4 : w2.cell? ⟨w1.heap.size, 4, none⟩ = some (.int .i64 (s % 60)) := (cell_of_row _ _ _ _ _ _ hbox).trans rfl
  have p4 : w2.cell? ⟨w.heap.size, 4, none⟩ = some (.int .i64 0) := (cell_of_row _ _ _ _ _ _ hrow).trans rfl
  have f4 := frozen_of_row w2 w.heap.size 4 _ 55 hrow
  have k5 : w2.cell? ⟨w1.heap.size, 5, none⟩ = some (.int .i64 ((q + 1) % 7)) := (cell_of_row _ _ _ _ _ _ hbox).trans rfl
  have p5 : w2.cell? ⟨w.heap.size, 5, none⟩ = some (.int .i64 0) := (cell_of_row _ _ _ _ _ _ hrow).trans rfl
  have f5 := frozen_of_row w2 w.heap.size 5 _ 55 hrow
  have HR2 := Hid.mk' hrow
  have hne : ¬ w.heap.size = w1.heap.size := by omega
  have hne' : ¬ w1.heap.size = w.heap.size := by omega
  clear hrow hbox hsz1
  go_wp2
  have HQ6 := heap_setCell_row (heap_setCell_row (heap_setCell_row (heap_setCell_row (heap_setCell_row (heap_setCell_row HR2.out 0 (.int .i64 y)) 1 (.int .i64 m)) 2 (.int .i64 d)) 3 (.int .i64 (r / 60))) 4 (.int .i64 (s % 60))) 5 (.int .i64 ((q + 1) % 7))
  refine bodyPost_ret (results_ct rfl _ _ w.heap.size 55 #[.int .i64 y, .int .i64 m, .int .i64 d, .int .i64 (r / 60), .int .i64 (s % 60), .int .i64 ((q + 1) % 7)] (0, 0) _ rfl HQ6 Tryd.underlying55 rfl info23) rfl ?_
  refine ⟨⟨y, m, d, r / 60, s % 60, (q + 1) % 7, rfl, ?_⟩, ?_⟩
  · have e1 := HS.out; have e2 := HQ.out; have e3 := HR.out
    subst e3 e2 e1
    exact ⟨hdate, rfl, rfl, rfl⟩
  · exact (((((HB2.out.setCell (Nat.le_refl _) _).setCell (Nat.le_refl _) _).setCell (Nat.le_refl _) _).setCell (Nat.le_refl _) _).setCell (Nat.le_refl _) _).setCell (Nat.le_refl _) _
set_option maxHeartbeats 1000000 in
theorem minute_no (y m d h mi wd : Int) (w : World) (hT : HasT w) (hf : fitsB y m d h mi = false) :
    Calls Tryd.prog 24 #[dateV y m d h mi wd] w fun e w' => e = .returned (.tuple #[.int .i64 0, .int .i64 1]) ∧ Below w.heap.size w w' := by
  have hft := fun o => fits_any y m d h mi wd (w.alloc o) (hT.below ((Below.refl _ _).alloc (Nat.le_refl _) o))
  rw [hf] at hft
  go_enter Tryd.func24, Tryd.ntmps24
  go_wp2_with (go_at_call 48; refine (hft _).mono ?_; rintro e w1 ⟨rfl, hb1⟩)
  go_ret2
  exact ⟨rfl, ((Below.refl _ _).alloc (Nat.le_refl _) _).trans (hb1.mono (by simp))⟩
theorem fitsB_true {y m d h mi : Int} (hf : fitsB y m d h mi = true) : 1 ≤ y ∧ y ≤ 9999 ∧ 1 ≤ m ∧ m ≤ 12 ∧ 1 ≤ d ∧ d ≤ mdays y m ∧ 0 ≤ h ∧ h ≤ 23 ∧ 0 ≤ mi ∧ mi ≤ 59 := by
  simp only [fitsB, inB, Bool.and_eq_true, decide_eq_true_eq] at hf
  omega
theorem wrapI {x : Int} (h0 : -9223372036854775808 ≤ x) (h1 : x ≤ 9223372036854775807) : IntKind.i64.wrap x = x := by
  rw [IntKind.wrap_i64]; omega
/-- The minute of a date. -/
def minOf (y m d h mi : Int) : Int := -1035593280 + (bef y + cum y m + d - 1) * 1440 + h * 60 + mi
set_option maxHeartbeats 1000000 in
theorem minute_yes (y m d h mi wd : Int) (w : World) (hT : HasT w) (hf : fitsB y m d h mi = true) :
    Calls Tryd.prog 24 #[dateV y m d h mi wd] w fun e w' => e = .returned (.tuple #[.int .i64 (minOf y m d h mi), .int .i64 0]) ∧ Below w.heap.size w w' := by
  obtain ⟨hy1, hy2, hm1, hm2, hd1, hd2, hh1, hh2, hi1, hi2⟩ := fitsB_true hf
  have hmb := mdays_bd y hm1 hm2
  have hbd := (IsDate.mk' hy1 hm1 hm2 hd1 hd2).bd hy2
  have HM : Hid (minOf y m d h mi = -1035593280 + (bef y + cum y m + d - 1) * 1440 + h * 60 + mi) := rfl
  have hft := fun o => fits_any y m d h mi wd (w.alloc o) (hT.below ((Below.refl _ _).alloc (Nat.le_refl _) o))
  rw [hf] at hft
  have hdy := fun W (hW : Below w.heap.size w W) => dayOf_any y m d h mi wd W (hT.below hW) hy1 hy2 hm1 hm2 hd1 (by omega)
  generalize bef y + cum y m + d - 1 = D at *
  have HDY := Hid.mk' hdy
  have HV : Hid (IntKind.i64.wrap (IntKind.i64.wrap (IntKind.i64.wrap (-1035593280 + IntKind.i64.wrap (D * 1440)) + IntKind.i64.wrap (h * 60)) + mi) = minOf y m d h mi) := by
    show _ = _
    rw [HM.out, wrapI (x := D * 1440) (by omega) (by omega), wrapI (x := -1035593280 + D * 1440) (by omega) (by omega), wrapI (x := h * 60) (by omega) (by omega), wrapI (x := -1035593280 + D * 1440 + h * 60) (by omega) (by omega), wrapI (by omega) (by omega)]
  clear hdy hmb
  go_enter Tryd.func24, Tryd.ntmps24
  go_wp2_with (go_at_call 48; refine (hft _).mono ?_; rintro e w1 ⟨rfl, hb1⟩)
  have HB : Hid (Below w.heap.size w w1) := ((Below.refl _ _).alloc (Nat.le_refl _) _).trans (hb1.mono (by simp))
  have hlt : w.heap.size < w1.heap.size := by have := hb1.size; simp at this; omega
  have hrow := (hb1.block w.heap.size (by simp)).trans (heap_alloc_new w _)
  have k0 : w1.cell? ⟨w.heap.size, 0, none⟩ = some (.int .i64 y) := (cell_of_row _ _ _ _ _ _ hrow).trans rfl
  have k1 : w1.cell? ⟨w.heap.size, 1, none⟩ = some (.int .i64 m) := (cell_of_row _ _ _ _ _ _ hrow).trans rfl
  have k2 : w1.cell? ⟨w.heap.size, 2, none⟩ = some (.int .i64 d) := (cell_of_row _ _ _ _ _ _ hrow).trans rfl
  have k3 : w1.cell? ⟨w.heap.size, 3, none⟩ = some (.int .i64 h) := (cell_of_row _ _ _ _ _ _ hrow).trans rfl
  have k4 : w1.cell? ⟨w.heap.size, 4, none⟩ = some (.int .i64 mi) := (cell_of_row _ _ _ _ _ _ hrow).trans rfl
  have k5 : w1.cell? ⟨w.heap.size, 5, none⟩ = some (.int .i64 wd) := (cell_of_row _ _ _ _ _ _ hrow).trans rfl
  have hS0 : (w1.drew.cell? ⟨w.heap.size, 0, none⟩ = some (.int .i64 y) ∧ w1.drew.cell? ⟨w.heap.size, 1, none⟩ = some (.int .i64 m) ∧ w1.drew.cell? ⟨w.heap.size, 2, none⟩ = some (.int .i64 d) ∧ w1.drew.cell? ⟨w.heap.size, 3, none⟩ = some (.int .i64 h) ∧ w1.drew.cell? ⟨w.heap.size, 4, none⟩ = some (.int .i64 mi) ∧ w1.drew.cell? ⟨w.heap.size, 5, none⟩ = some (.int .i64 wd) ∧ Hid (Below w.heap.size w w1.drew ∧ w.heap.size < w1.drew.heap.size)) := ⟨k0, k1, k2, k3, k4, k5, Hid.mk' ⟨HB.out.drew, hlt⟩⟩
  have h21 : ∀ w', (w'.cell? ⟨w.heap.size, 0, none⟩ = some (.int .i64 y) ∧ w'.cell? ⟨w.heap.size, 1, none⟩ = some (.int .i64 m) ∧ w'.cell? ⟨w.heap.size, 2, none⟩ = some (.int .i64 d) ∧ w'.cell? ⟨w.heap.size, 3, none⟩ = some (.int .i64 h) ∧ w'.cell? ⟨w.heap.size, 4, none⟩ = some (.int .i64 mi) ∧ w'.cell? ⟨w.heap.size, 5, none⟩ = some (.int .i64 wd) ∧ Hid (Below w.heap.size w w' ∧ w.heap.size < w'.heap.size)) → Calls Tryd.prog 49 #[.agg #[.int .i64 y, .int .i64 m, .int .i64 d, .int .i64 h, .int .i64 mi, .int .i64 wd]] w' fun e W => e = .returned (.int .i64 D) ∧ (W.cell? ⟨w.heap.size, 0, none⟩ = some (.int .i64 y) ∧ W.cell? ⟨w.heap.size, 1, none⟩ = some (.int .i64 m) ∧ W.cell? ⟨w.heap.size, 2, none⟩ = some (.int .i64 d) ∧ W.cell? ⟨w.heap.size, 3, none⟩ = some (.int .i64 h) ∧ W.cell? ⟨w.heap.size, 4, none⟩ = some (.int .i64 mi) ∧ W.cell? ⟨w.heap.size, 5, none⟩ = some (.int .i64 wd) ∧ Hid (Below w.heap.size w W ∧ w.heap.size < W.heap.size)) := fun w' hS => by
    obtain ⟨e0, e1, e2, e3, e4, e5, HL⟩ := hS
    have h1 := HL.out.1
    have h2 := HL.out.2
    refine (HDY.out w' h1).mono ?_
    rintro e W ⟨rfl, hb⟩
    exact ⟨rfl, (hb.cell (p := ⟨w.heap.size, 0, none⟩) h2).trans e0, (hb.cell (p := ⟨w.heap.size, 1, none⟩) h2).trans e1, (hb.cell (p := ⟨w.heap.size, 2, none⟩) h2).trans e2, (hb.cell (p := ⟨w.heap.size, 3, none⟩) h2).trans e3, (hb.cell (p := ⟨w.heap.size, 4, none⟩) h2).trans e4, (hb.cell (p := ⟨w.heap.size, 5, none⟩) h2).trans e5, Hid.mk' ⟨h1.trans (hb.mono h1.size), Nat.lt_of_lt_of_le h2 hb.size⟩⟩
  clear hb1 hrow k0 k1 k2 k3 k4 k5 hT hft HDY
  go_region_held_law (fun w' => w'.cell? ⟨w.heap.size, 0, none⟩ = some (.int .i64 y) ∧ w'.cell? ⟨w.heap.size, 1, none⟩ = some (.int .i64 m) ∧ w'.cell? ⟨w.heap.size, 2, none⟩ = some (.int .i64 d) ∧ w'.cell? ⟨w.heap.size, 3, none⟩ = some (.int .i64 h) ∧ w'.cell? ⟨w.heap.size, 4, none⟩ = some (.int .i64 mi) ∧ w'.cell? ⟨w.heap.size, 5, none⟩ = some (.int .i64 wd) ∧ Hid (Below w.heap.size w w' ∧ w.heap.size < w'.heap.size)) (first | assumption | (show _ ∧ _ ∧ _ ∧ _ ∧ _ ∧ _ ∧ _; assumption)) (first | (go_at_call 49; with_reducible refine (h21 _ (by assumption)).mono ?_; rintro e w8 ⟨rfl, hS8⟩))
  all_goals
    go_wp2_with fail
    go_ret2
    exact ⟨congrArg (fun v => Ending.returned (.tuple #[.int .i64 v, .int .i64 0])) HV.out, hS8.2.2.2.2.2.2.out.1⟩
end Go.Proofs.YtdojpnhjnhecmaaDoor
