/- The document's Of and Minute. -/
import Derived.Test.YtdojpnhjnhecmaaDoorC4
namespace Go.Proofs.YtdojpnhjnhecmaaDoor
open Go Go.RowKit
theorem bef_step {y day : Int} (h : bef (y + 1) ≤ day) (hd : day < 3652059) : y + 1 ≤ 9999 := by
  refine Int.not_lt.1 fun hlt => ?_
  have := bef_le (y := 10000) (z := y + 1) (by omega)
  have h0 : bef 10000 = 3652059 := by decide
  omega
theorem bef_first (day : Int) (h0 : 0 ≤ day) (hd : day < 3652059) : bef (day / 366 + 1) ≤ day ∧ 1 ≤ day / 366 + 1 ∧ day / 366 + 1 ≤ 9999 := by
  unfold bef; omega
/-- The day of a minute, rounded down. -/
theorem day_down (n : Int) :
    (n.tmod 1440 < 0 → n.tmod 1440 + 1440 = n % 1440 ∧ n.tdiv 1440 - 1 = n / 1440) ∧ (¬ n.tmod 1440 < 0 → n.tmod 1440 = n % 1440 ∧ n.tdiv 1440 = n / 1440) := by
  have e := Int.mul_tdiv_add_tmod n 1440
  have h1 := Int.lt_tmod_of_pos n (b := 1440) (by omega)
  have h2 := Int.tmod_lt_of_pos n (b := 1440) (by omega)
  omega
set_option maxHeartbeats 1000000 in
theorem rof_no (n : Int) (w : World) (h0 : -9223372036854775808 ≤ n) (h1 : n ≤ 9223372036854775807) (hn : n < -1035593280 ∨ 4223371679 < n) :
    Calls Tryd.prog 38 #[.int .i64 n] w fun e w' => e = .returned (.tuple #[dateV 0 0 0 0 0 0, .int .i64 1]) ∧ Below w.heap.size w w' := by
  have HQ := Hid.mk' <| heap_alloc_new w (.cells #[.int .i64 0, .int .i64 0, .int .i64 0, .int .i64 0, .int .i64 0, .int .i64 0] 55)
  have hdn := day_down n
  have hbf := fun W => before_any 10000 W (by decide) (by decide)
  rw [show bef 10000 = 3652059 by decide] at hbf
  have hmb := Int.lt_tmod_of_pos n (b := 1440) (by omega)
  have hmb2 := Int.tmod_lt_of_pos n (b := 1440) (by omega)
  have hdb : -6500000000000000 < n.tdiv 1440 ∧ n.tdiv 1440 < 6500000000000000 := by
    have e := Int.mul_tdiv_add_tmod n 1440
    omega
  by_cases hr : n.tmod 1440 < 0
  · have hd := hdn.1 hr
    rcases hn with hn | hn
    · have hlo : n.tdiv 1440 - 1 < -719162 := by omega
      clear hdn hd
      generalize hq : n.tdiv 1440 = D at *
      generalize hR : n.tmod 1440 = R at *
      clear h0 h1 hn
      go_enter Tryd.func38, Tryd.ntmps38
      go_wp2
      refine bodyPost_ret (results_ct rfl _ _ w.heap.size 55 #[.int .i64 0, .int .i64 0, .int .i64 0, .int .i64 0, .int .i64 0, .int .i64 0] (0, 0) _ rfl HQ.out Tryd.underlying55 rfl info23) rfl ?_
      exact ⟨rfl, (Below.refl _ _).alloc (Nat.le_refl _) _⟩
    · have hlo : ¬ n.tdiv 1440 - 1 < -719162 := by omega
      have hhi : 2932897 ≤ n.tdiv 1440 - 1 := by omega
      clear hdn hd
      generalize hq : n.tdiv 1440 = D at *
      generalize hR : n.tmod 1440 = R at *
      clear h0 h1 hn
      go_enter Tryd.func38, Tryd.ntmps38
      go_wp2_with (go_at_call 64; refine (hbf _).mono ?_; rintro e w1 ⟨rfl, rfl⟩)
      refine bodyPost_ret (results_ct rfl _ _ w.heap.size 55 #[.int .i64 0, .int .i64 0, .int .i64 0, .int .i64 0, .int .i64 0, .int .i64 0] (0, 0) _ rfl HQ.out Tryd.underlying55 rfl info23) rfl ?_
      exact ⟨rfl, (Below.refl _ _).alloc (Nat.le_refl _) _⟩
  · have hd := hdn.2 hr
    rcases hn with hn | hn
    · have hlo : n.tdiv 1440 < -719162 := by omega
      clear hdn hd
      generalize hq : n.tdiv 1440 = D at *
      generalize hR : n.tmod 1440 = R at *
      clear h0 h1 hn
      go_enter Tryd.func38, Tryd.ntmps38
      go_wp2
      refine bodyPost_ret (results_ct rfl _ _ w.heap.size 55 #[.int .i64 0, .int .i64 0, .int .i64 0, .int .i64 0, .int .i64 0, .int .i64 0] (0, 0) _ rfl HQ.out Tryd.underlying55 rfl info23) rfl ?_
      exact ⟨rfl, (Below.refl _ _).alloc (Nat.le_refl _) _⟩
    · have hlo : ¬ n.tdiv 1440 < -719162 := by omega
      have hhi : 2932897 ≤ n.tdiv 1440 := by omega
      clear hdn hd
      generalize hq : n.tdiv 1440 = D at *
      generalize hR : n.tmod 1440 = R at *
      clear h0 h1 hn
      go_enter Tryd.func38, Tryd.ntmps38
      go_wp2_with (go_at_call 64; refine (hbf _).mono ?_; rintro e w1 ⟨rfl, rfl⟩)
      refine bodyPost_ret (results_ct rfl _ _ w.heap.size 55 #[.int .i64 0, .int .i64 0, .int .i64 0, .int .i64 0, .int .i64 0, .int .i64 0] (0, 0) _ rfl HQ.out Tryd.underlying55 rfl info23) rfl ?_
      exact ⟨rfl, (Below.refl _ _).alloc (Nat.le_refl _) _⟩

set_option maxHeartbeats 1000000 in
theorem rof_yes (n : Int) (w : World) (h0 : -1035593280 ≤ n) (h1 : n ≤ 4223371679) :
    Calls Tryd.prog 38 #[.int .i64 n] w fun e w' => (∃ y m d h mi wd, e = .returned (.tuple #[dateV y m d h mi wd, .int .i64 0]) ∧ IsAt n y m d h mi wd) ∧ Below w.heap.size w w' := by
  have HQ := Hid.mk' <| heap_alloc_new w (.cells #[.int .i64 0, .int .i64 0, .int .i64 0, .int .i64 0, .int .i64 0, .int .i64 0] 55)
  have HBW : Hid (Below w.heap.size w (w.alloc (.cells #[.int .i64 0, .int .i64 0, .int .i64 0, .int .i64 0, .int .i64 0, .int .i64 0] 55))) := (Below.refl _ _).alloc (Nat.le_refl _) _
  have hdn := day_down n
  have hbf := fun W => before_any 10000 W (by decide) (by decide)
  rw [show bef 10000 = 3652059 by decide] at hbf
  have hmb := Int.lt_tmod_of_pos n (b := 1440) (by omega)
  have hmb2 := Int.tmod_lt_of_pos n (b := 1440) (by omega)
  have hdb : -800000 < n.tdiv 1440 ∧ n.tdiv 1440 < 3000000 := by
    have e := Int.mul_tdiv_add_tmod n 1440
    omega
  obtain ⟨day, hdd⟩ : ∃ day, day = (n + 1035593280) / 1440 := ⟨_, rfl⟩
  obtain ⟨r, hrr0⟩ : ∃ r, r = (n + 1035593280) % 1440 := ⟨_, rfl⟩
  have hda : 0 ≤ day ∧ day < 3652059 := by omega
  have hrb : 0 ≤ r ∧ r < 1440 := by omega
  have HN : Hid ((n + 1035593280) / 1440 = day ∧ (n + 1035593280) % 1440 / 60 = r / 60 ∧ (n + 1035593280) % 60 = r % 60) := by refine ⟨hdd.symm, by omega, by omega⟩
  have HF := Hid.mk' (bef_first day hda.1 hda.2)
  by_cases hr : n.tmod 1440 < 0
  · have hd := hdn.1 hr
    have hday : n.tdiv 1440 - 1 + 719162 = day := by omega
    have hrr : n.tmod 1440 + 1440 = r := by omega
    have hlo : ¬ n.tdiv 1440 - 1 < -719162 := by omega
    have hhi : ¬ 2932897 ≤ n.tdiv 1440 - 1 := by omega
    clear hdn hd hdd hrr0
    generalize hq : n.tdiv 1440 = D at *
    generalize hR : n.tmod 1440 = R at *
    clear h0 h1
    go_enter Tryd.func38, Tryd.ntmps38
    go_wp2_with (go_at_call 64; refine (hbf _).mono ?_; rintro e w1 ⟨rfl, rfl⟩)
    clear hq hR hr
    clear hday hrr hlo hhi hdb hmb hmb2 hbf
    generalize (w.alloc (.cells #[.int .i64 0, .int .i64 0, .int .i64 0, .int .i64 0, .int .i64 0, .int .i64 0] 55)) = w1 at *
    go_loopg [6] 10000 (fun kx s6 wr => ∃ y : Int, 1 ≤ y ∧ y ≤ 9999 ∧ (9999 - y).toNat ≤ kx ∧ s6 = .int .i64 y ∧ Hid (bef y ≤ day) ∧ wr = w1)
    case atStart => exact ⟨day / 366 + 1, HF.out.2.1, HF.out.2.2, by have := HF.out.2.1; omega, rfl, Hid.mk' HF.out.1, rfl⟩
    case round =>
      obtain ⟨y, hy1, hy2, hkx, rfl, HY, rfl⟩ := hrel
      have hbe := before_any (y + 1) wr (by omega) (by omega)
      have hbb := bef_bd (y := y + 1) (by omega) (by omega)
      have HBS := Hid.mk' (bef_succ y)
      by_cases hle : bef (y + 1) ≤ day
      · have hst := bef_step hle hda.2
        have HLE := Hid.mk' hle
        go_wp2_with (go_at_call 64; refine hbe.mono ?_; rintro e w' ⟨rfl, rfl⟩)
        go_roundg (9999 - (y + 1)).toNat
        case measure => omega
        case rel => exact ⟨y + 1, by omega, by omega, by omega, rfl, HLE, rfl⟩
      · have hbe2 := before_any y wr hy1 (by omega)
        have hyb := bef_bd (y := y) hy1 (by omega)
        have HL1 : Hid (day - bef y < 365 + lp y) := by show _ < _; have := HBS.out; omega
        have hl0 : 0 ≤ day - bef y := by have := HY.out; omega
        have hlp := lp_01 y
        have hl1 : day - bef y ≤ 366 := by have := HL1.out; omega
        generalize hb1 : bef (y + 1) = b1 at *
        clear hb1
        generalize hb0 : bef y = b0 at *
        have HB0 := Hid.mk' hb0
        clear hb0 hlp
        go_wp2_with fail
        refine hbe.mono ?_
        rintro e w' ⟨rfl, hww⟩
        rw [hww]
        clear hww hbe
        go_wp2_with fail
        refine hbe2.mono ?_
        rintro e w'' ⟨rfl, hww⟩
        rw [hww]
        clear hww hbe2
        obtain ⟨W0, hW0⟩ : ∃ W0, W0 = wr := ⟨_, rfl⟩
        subst hW0
        go_wp2
        generalize hL : day - b0 = L at *
        have HL := Hid.mk' hL
        clear hL
        go_loopg [7, 8] 12 (fun kx s7 s8 wr => ∃ m : Int, 1 ≤ m ∧ m ≤ 12 ∧ (12 - m).toNat ≤ kx ∧ s8 = .int .i64 m ∧ s7 = .int .i64 (L - cum y m) ∧ 0 ≤ L - cum y m ∧ wr = W0)
        case atStart => exact ⟨1, by decide, by decide, by decide, rfl, by rw [cum_one, Int.sub_zero], by rw [cum_one]; omega, rfl⟩
        case round =>
          obtain ⟨m, hm1, hm2, hkx2, rfl, rfl, hl00, rfl⟩ := hrel
          have hcb := cum_bd y hm1 hm2
          have HS := Hid.mk' (cum_succ y hm1 hm2)
          have hmd := mdays_bd y hm1 hm2
          have hdays := rdays_any y m wr
          obtain ⟨hcb0, hcb1, hcb2⟩ := hcb
          obtain ⟨l, hl⟩ : ∃ l, l = L - cum y m := ⟨_, rfl⟩
          rw [← hl] at hl00 ⊢
          have HLL := Hid.mk' hl
          have hlb : l ≤ 366 := by omega
          clear hl hcb0 hcb1 hcb2
          by_cases hge : mdays y m ≤ l
          · go_wp2_with (go_at_call 65; refine hdays.mono ?_; rintro e w' ⟨rfl, rfl⟩)
            go_roundg (12 - (m + 1)).toNat
            case measure =>
              have h1 := HLL.out; have h2 := HL1.out; have h3 := HS.out
              have h4 : m < 12 := Int.not_le.1 fun hge2 => by
                obtain rfl : m = 12 := by omega
                have h5 : cum y (12 + 1) = 365 + lp y := cum_13 y
                omega
              omega
            case rel =>
              have h1 := HLL.out; have h2 := HL1.out; have h3 := HS.out
              have h4 : m < 12 := Int.not_le.1 fun hge2 => by
                obtain rfl : m = 12 := by omega
                have h5 : cum y (12 + 1) = 365 + lp y := cum_13 y
                omega
              exact ⟨m + 1, by omega, by omega, by omega, rfl, val_eq (by omega), by omega, rfl⟩
          · have e7 : (day + 1).tmod 7 = (day + 1) % 7 := Int.tmod_eq_emod_of_nonneg (by omega)
            have e60 : r.tdiv 60 = r / 60 := Int.tdiv_eq_ediv_of_nonneg hrb.1
            have f60 : r.tmod 60 = r % 60 := Int.tmod_eq_emod_of_nonneg hrb.1
            have r0 : wr.cell? ⟨w.heap.size, 0, none⟩ = some (.int .i64 0) := (cell_of_row _ _ _ _ _ _ HQ.out).trans rfl
            have r1 : wr.cell? ⟨w.heap.size, 1, none⟩ = some (.int .i64 0) := (cell_of_row _ _ _ _ _ _ HQ.out).trans rfl
            have r2 : wr.cell? ⟨w.heap.size, 2, none⟩ = some (.int .i64 0) := (cell_of_row _ _ _ _ _ _ HQ.out).trans rfl
            have r3 : wr.cell? ⟨w.heap.size, 3, none⟩ = some (.int .i64 0) := (cell_of_row _ _ _ _ _ _ HQ.out).trans rfl
            have r4 : wr.cell? ⟨w.heap.size, 4, none⟩ = some (.int .i64 0) := (cell_of_row _ _ _ _ _ _ HQ.out).trans rfl
            have r5 : wr.cell? ⟨w.heap.size, 5, none⟩ = some (.int .i64 0) := (cell_of_row _ _ _ _ _ _ HQ.out).trans rfl
            have g0 := frozen_of_row wr w.heap.size 0 _ 55 HQ.out
            have g1 := frozen_of_row wr w.heap.size 1 _ 55 HQ.out
            have g2 := frozen_of_row wr w.heap.size 2 _ 55 HQ.out
            have g3 := frozen_of_row wr w.heap.size 3 _ 55 HQ.out
            have g4 := frozen_of_row wr w.heap.size 4 _ 55 HQ.out
            have g5 := frozen_of_row wr w.heap.size 5 _ 55 HQ.out
            go_wp2_with (go_at_call 65; refine hdays.mono ?_; rintro e w' ⟨rfl, rfl⟩)
            have HQ6 := heap_setCell_row (heap_setCell_row (heap_setCell_row (heap_setCell_row (heap_setCell_row (heap_setCell_row HQ.out 0 (.int .i64 y)) 1 (.int .i64 m)) 2 (.int .i64 (l + 1))) 3 (.int .i64 (r / 60))) 4 (.int .i64 (r % 60))) 5 (.int .i64 ((day + 1) % 7))
            refine bodyPost_ret (results_ct rfl _ _ w.heap.size 55 #[.int .i64 y, .int .i64 m, .int .i64 (l + 1), .int .i64 (r / 60), .int .i64 (r % 60), .int .i64 ((day + 1) % 7)] (0, 0) _ rfl HQ6 Tryd.underlying55 rfl info23) rfl ?_
            refine ⟨⟨y, m, l + 1, r / 60, r % 60, (day + 1) % 7, rfl, ?_⟩, ?_⟩
            · have h1 := HN.out
              have h2 := HLL.out; have h3 := HL.out; have h4 := HB0.out
              exact ⟨by rw [h1.1]; exact ⟨hy1, hm1, hm2, by omega, by omega, by omega⟩, h1.2.1.symm, h1.2.2.symm, by rw [h1.1]⟩
            · exact (((((HBW.out.setCell (Nat.le_refl _) _).setCell (Nat.le_refl _) _).setCell (Nat.le_refl _) _).setCell (Nat.le_refl _) _).setCell (Nat.le_refl _) _).setCell (Nat.le_refl _) _
  · have hd := hdn.2 hr
    have hday : n.tdiv 1440 + 719162 = day := by omega
    have hrr : n.tmod 1440 = r := by omega
    have hlo : ¬ n.tdiv 1440 < -719162 := by omega
    have hhi : ¬ 2932897 ≤ n.tdiv 1440 := by omega
    have hr2 : ¬ r < 0 := by omega
    clear hdn hd hdd hrr0 hr
    generalize hq : n.tdiv 1440 = D at *
    clear h0 h1 hmb hmb2
    have hmb : 0 ≤ r := hrb.1
    have hmb2 : r < 1440 := hrb.2
    go_enter Tryd.func38, Tryd.ntmps38
    go_wp2_with (go_at_call 64; refine (hbf _).mono ?_; rintro e w1 ⟨rfl, rfl⟩)
    clear hq hr2
    clear hday hrr hlo hhi hdb hmb hmb2 hbf
    generalize (w.alloc (.cells #[.int .i64 0, .int .i64 0, .int .i64 0, .int .i64 0, .int .i64 0, .int .i64 0] 55)) = w1 at *
    go_loopg [6] 10000 (fun kx s6 wr => ∃ y : Int, 1 ≤ y ∧ y ≤ 9999 ∧ (9999 - y).toNat ≤ kx ∧ s6 = .int .i64 y ∧ Hid (bef y ≤ day) ∧ wr = w1)
    case atStart => exact ⟨day / 366 + 1, HF.out.2.1, HF.out.2.2, by have := HF.out.2.1; omega, rfl, Hid.mk' HF.out.1, rfl⟩
    case round =>
      obtain ⟨y, hy1, hy2, hkx, rfl, HY, rfl⟩ := hrel
      have hbe := before_any (y + 1) wr (by omega) (by omega)
      have hbb := bef_bd (y := y + 1) (by omega) (by omega)
      have HBS := Hid.mk' (bef_succ y)
      by_cases hle : bef (y + 1) ≤ day
      · have hst := bef_step hle hda.2
        have HLE := Hid.mk' hle
        go_wp2_with (go_at_call 64; refine hbe.mono ?_; rintro e w' ⟨rfl, rfl⟩)
        go_roundg (9999 - (y + 1)).toNat
        case measure => omega
        case rel => exact ⟨y + 1, by omega, by omega, by omega, rfl, HLE, rfl⟩
      · have hbe2 := before_any y wr hy1 (by omega)
        have hyb := bef_bd (y := y) hy1 (by omega)
        have HL1 : Hid (day - bef y < 365 + lp y) := by show _ < _; have := HBS.out; omega
        have hl0 : 0 ≤ day - bef y := by have := HY.out; omega
        have hlp := lp_01 y
        have hl1 : day - bef y ≤ 366 := by have := HL1.out; omega
        generalize hb1 : bef (y + 1) = b1 at *
        clear hb1
        generalize hb0 : bef y = b0 at *
        have HB0 := Hid.mk' hb0
        clear hb0 hlp
        go_wp2_with fail
        refine hbe.mono ?_
        rintro e w' ⟨rfl, hww⟩
        rw [hww]
        clear hww hbe
        go_wp2_with fail
        refine hbe2.mono ?_
        rintro e w'' ⟨rfl, hww⟩
        rw [hww]
        clear hww hbe2
        obtain ⟨W0, hW0⟩ : ∃ W0, W0 = wr := ⟨_, rfl⟩
        subst hW0
        go_wp2
        generalize hL : day - b0 = L at *
        have HL := Hid.mk' hL
        clear hL
        go_loopg [7, 8] 12 (fun kx s7 s8 wr => ∃ m : Int, 1 ≤ m ∧ m ≤ 12 ∧ (12 - m).toNat ≤ kx ∧ s8 = .int .i64 m ∧ s7 = .int .i64 (L - cum y m) ∧ 0 ≤ L - cum y m ∧ wr = W0)
        case atStart => exact ⟨1, by decide, by decide, by decide, rfl, by rw [cum_one, Int.sub_zero], by rw [cum_one]; omega, rfl⟩
        case round =>
          obtain ⟨m, hm1, hm2, hkx2, rfl, rfl, hl00, rfl⟩ := hrel
          have hcb := cum_bd y hm1 hm2
          have HS := Hid.mk' (cum_succ y hm1 hm2)
          have hmd := mdays_bd y hm1 hm2
          have hdays := rdays_any y m wr
          obtain ⟨hcb0, hcb1, hcb2⟩ := hcb
          obtain ⟨l, hl⟩ : ∃ l, l = L - cum y m := ⟨_, rfl⟩
          rw [← hl] at hl00 ⊢
          have HLL := Hid.mk' hl
          have hlb : l ≤ 366 := by omega
          clear hl hcb0 hcb1 hcb2
          by_cases hge : mdays y m ≤ l
          · go_wp2_with (go_at_call 65; refine hdays.mono ?_; rintro e w' ⟨rfl, rfl⟩)
            go_roundg (12 - (m + 1)).toNat
            case measure =>
              have h1 := HLL.out; have h2 := HL1.out; have h3 := HS.out
              have h4 : m < 12 := Int.not_le.1 fun hge2 => by
                obtain rfl : m = 12 := by omega
                have h5 : cum y (12 + 1) = 365 + lp y := cum_13 y
                omega
              omega
            case rel =>
              have h1 := HLL.out; have h2 := HL1.out; have h3 := HS.out
              have h4 : m < 12 := Int.not_le.1 fun hge2 => by
                obtain rfl : m = 12 := by omega
                have h5 : cum y (12 + 1) = 365 + lp y := cum_13 y
                omega
              exact ⟨m + 1, by omega, by omega, by omega, rfl, val_eq (by omega), by omega, rfl⟩
          · have e7 : (day + 1).tmod 7 = (day + 1) % 7 := Int.tmod_eq_emod_of_nonneg (by omega)
            have e60 : r.tdiv 60 = r / 60 := Int.tdiv_eq_ediv_of_nonneg hrb.1
            have f60 : r.tmod 60 = r % 60 := Int.tmod_eq_emod_of_nonneg hrb.1
            have r0 : wr.cell? ⟨w.heap.size, 0, none⟩ = some (.int .i64 0) := (cell_of_row _ _ _ _ _ _ HQ.out).trans rfl
            have r1 : wr.cell? ⟨w.heap.size, 1, none⟩ = some (.int .i64 0) := (cell_of_row _ _ _ _ _ _ HQ.out).trans rfl
            have r2 : wr.cell? ⟨w.heap.size, 2, none⟩ = some (.int .i64 0) := (cell_of_row _ _ _ _ _ _ HQ.out).trans rfl
            have r3 : wr.cell? ⟨w.heap.size, 3, none⟩ = some (.int .i64 0) := (cell_of_row _ _ _ _ _ _ HQ.out).trans rfl
            have r4 : wr.cell? ⟨w.heap.size, 4, none⟩ = some (.int .i64 0) := (cell_of_row _ _ _ _ _ _ HQ.out).trans rfl
            have r5 : wr.cell? ⟨w.heap.size, 5, none⟩ = some (.int .i64 0) := (cell_of_row _ _ _ _ _ _ HQ.out).trans rfl
            have g0 := frozen_of_row wr w.heap.size 0 _ 55 HQ.out
            have g1 := frozen_of_row wr w.heap.size 1 _ 55 HQ.out
            have g2 := frozen_of_row wr w.heap.size 2 _ 55 HQ.out
            have g3 := frozen_of_row wr w.heap.size 3 _ 55 HQ.out
            have g4 := frozen_of_row wr w.heap.size 4 _ 55 HQ.out
            have g5 := frozen_of_row wr w.heap.size 5 _ 55 HQ.out
            go_wp2_with (go_at_call 65; refine hdays.mono ?_; rintro e w' ⟨rfl, rfl⟩)
            have HQ6 := heap_setCell_row (heap_setCell_row (heap_setCell_row (heap_setCell_row (heap_setCell_row (heap_setCell_row HQ.out 0 (.int .i64 y)) 1 (.int .i64 m)) 2 (.int .i64 (l + 1))) 3 (.int .i64 (r / 60))) 4 (.int .i64 (r % 60))) 5 (.int .i64 ((day + 1) % 7))
            refine bodyPost_ret (results_ct rfl _ _ w.heap.size 55 #[.int .i64 y, .int .i64 m, .int .i64 (l + 1), .int .i64 (r / 60), .int .i64 (r % 60), .int .i64 ((day + 1) % 7)] (0, 0) _ rfl HQ6 Tryd.underlying55 rfl info23) rfl ?_
            refine ⟨⟨y, m, l + 1, r / 60, r % 60, (day + 1) % 7, rfl, ?_⟩, ?_⟩
            · have h1 := HN.out
              have h2 := HLL.out; have h3 := HL.out; have h4 := HB0.out
              exact ⟨by rw [h1.1]; exact ⟨hy1, hm1, hm2, by omega, by omega, by omega⟩, h1.2.1.symm, h1.2.2.symm, by rw [h1.1]⟩
            · exact (((((HBW.out.setCell (Nat.le_refl _) _).setCell (Nat.le_refl _) _).setCell (Nat.le_refl _) _).setCell (Nat.le_refl _) _).setCell (Nat.le_refl _) _).setCell (Nat.le_refl _) _
end Go.Proofs.YtdojpnhjnhecmaaDoor
