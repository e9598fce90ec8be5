/- CronNever, walked. -/
import Derived.Test.YtdojpnhjnhecmabDoorW1
namespace Go.Proofs.YtdojpnhjnhecmabDoor
open Go Go.RowKit
theorem EW.drew {x : Exp} {E : Nat} {w W : World} (h : EW x E w W) : EW x E w W.drew := h.below (Below.refl _ _).drew
set_option maxRecDepth 100000 in
set_option maxHeartbeats 2000000 in
theorem never_walk (x0 : Int) (w : World) (hT : HasT w) (_b0 : -9223372036854775808 ≤ x0 ∧ x0 ≤ 9223372036854775807) : Calls Tryd.prog 3 #[.int .i64 x0] w fun e w' => e = .returned (.bool true) ∧ Below w.heap.size w w' := by
  have hkn := known_any w hT
  have HT : Hid (∀ w3, Below w.heap.size w w3 → HasT w3) := fun w3 h => hT.below h
  have hm := fun W => minF_any x0 W
  have hmb := minF_bd x0
  generalize minF x0 = a at *
  obtain ⟨Y, M, D, HH, MI, WD, hAt⟩ := at_exists a (by omega) (by omega)
  have HAT := Hid.mk'' hAt
  clear hT hAt
  go_enter Tryd.func3, Tryd.ntmps3
  go_wp2_with fail
  refine hkn.mono ?_
  rintro e w1 ⟨rfl, hb⟩
  have HB1 := Hid.mk'' hb
  have hp := parse_yes ⟨#[48, 32, 48, 32, 51, 48, 32, 50, 32, 42]⟩ eNever parse_never (by decide) w1 (HT.out _ hb)
  clear hkn hb
  unfold expV at hp
  go_wp2_with fail
  refine hp.mono ?_
  rintro e w2 ⟨rfl, hb2⟩
  have hb2' : Below w.heap.size w w2 := HB1.out.trans (hb2.mono HB1.out.size)
  have HE := Hid.mk'' (EW.start (x := eNever) hb2' (HT.out _ hb2'))
  obtain ⟨V, hV⟩ : ∃ V, V = w2.alloc (.cells #[.int .u64 eNever.mi, .int .u64 eNever.ho, .int .u64 eNever.da, .int .u64 eNever.mo, .int .u64 eNever.wk, .bool eNever.ad, .bool eNever.aw] 25) := ⟨_, rfl⟩
  rw [← hV] at HE
  clear hp hb2 hb2' HB1
  go_upto_region 4 with (fail)
  rw [← hV]
  clear hV
  generalize w2.heap.size = E at *
  obtain ⟨k0, k1, k2, k3, k4, k5, k6⟩ := HE.out.cells
  have nx := next_yes eNever eNever_oks a V.drew HE.out.drew.tab (by omega) (by omega)
  unfold expV at nx
  go_region_with (first | (go_at_call 9; refine (hm _).mono ?_; rintro e w3 ⟨rfl, rfl⟩) | (go_at_call 8; refine nx.mono ?_; rintro e w4 ⟨⟨v, c, rfl, hv⟩, hb4⟩))
  all_goals
    obtain rfl := eNever_next hv
    have hb4' : Below w.heap.size w w4 := (HE.out.drew.below hb4).bel
    have HB4 := Hid.mk'' hb4'
    have hp := parse_yes ⟨#[48, 32, 48, 32, 50, 57, 32, 50, 32, 42]⟩ eLeap parse_leap (by decide) w4 (HT.out _ hb4')
    clear nx hv hb4 hb4' HE k0 k1 k2 k3 k4 k5 k6
    unfold expV at hp
    go_wp2_with fail
    refine hp.mono ?_
    rintro e w5 ⟨rfl, hb5⟩
    have hb5' : Below w.heap.size w w5 := HB4.out.trans (hb5.mono HB4.out.size)
    have HE := Hid.mk'' (EW.start (x := eLeap) hb5' (HT.out _ hb5'))
    obtain ⟨V5, hV⟩ : ∃ V, V = w5.alloc (.cells #[.int .u64 eLeap.mi, .int .u64 eLeap.ho, .int .u64 eLeap.da, .int .u64 eLeap.mo, .int .u64 eLeap.wk, .bool eLeap.ad, .bool eLeap.aw] 25) := ⟨_, rfl⟩
    rw [← hV] at HE
    clear hp hb5 hb5' HB4
    go_upto_region 6 with (fail)
    rw [← hV]
    clear hV
    generalize w5.heap.size = E5 at *
    obtain ⟨k0, k1, k2, k3, k4, k5, k6⟩ := HE.out.cells
    have nx := next_yes eLeap eLeap_oks a V5.drew HE.out.drew.tab (by omega) (by omega)
    unfold expV at nx
    go_region_with (first | (go_at_call 9; refine (hm _).mono ?_; rintro e w6 ⟨rfl, rfl⟩) | (go_at_call 8; refine nx.mono ?_; rintro e w7 ⟨⟨v', c, rfl, hv⟩, hb7⟩))
    all_goals
      have HE7 : Hid (EW eLeap E5 w w7) := HE.out.drew.below hb7
      have HV := Hid.mk'' hv
      clear nx hv hb7 HE k0 k1 k2 k3 k4 k5 k6
      by_cases hY : Y ≤ 9991
      · obtain ⟨rfl, hM⟩ := eLeap_next HAT.out hY HV.out
        have HM := Hid.mk'' hM
        have hof := of_yes v' w7 HE7.out.tab hM.1 hM.2.1
        clear hM HV
        go_wp2_with fail
        refine hof.mono ?_
        rintro e w8 ⟨⟨y, m, d, h, mi, wd, rfl, hA⟩, hb8⟩
        obtain ⟨rfl, rfl, hlp⟩ := eLeap_date HM.out hA
        have hlf : leapP y = true := by
          have := lp_leap y
          cases hl : leapP y with
          | true => rfl
          | false => rw [hl, hlp] at this; exact absurd this (by decide)
        have hle := fun W => leap_any y W
        rw [hlf] at hle
        have HE8 := Hid.mk'' (HE7.out.below hb8)
        have hof2 : ∀ o, Calls Tryd.prog 10 #[.int .i64 a] (w8.alloc o) _ := fun o => of_at HAT.out (w8.alloc o) (HE8.out.below ((Below.refl _ _).alloc (Nat.le_refl _) o)).tab (by omega) (by omega)
        clear hof hb8 hA hlp hlf HE7 HM
        go_wp2_with (go_at_call 9; refine (hm _).mono ?_; rintro e w9 ⟨rfl, rfl⟩)
        refine (hof2 _).mono ?_
        rintro e w10 ⟨rfl, hb10⟩
        obtain ⟨r1, hz, _⟩ := one_box hb10
        have HE10 : Hid (EW eLeap E5 w w10) := (HE8.out.below ((Below.refl _ _).alloc (Nat.le_refl _) _)).below hb10
        have j0 : w10.cell? ⟨w8.heap.size, 0, none⟩ = some (.int .i64 y) := cell_of_row _ _ _ _ _ _ r1
        have j1 : w10.cell? ⟨w8.heap.size, 1, none⟩ = some (.int .i64 2) := cell_of_row _ _ _ _ _ _ r1
        have j2 : w10.cell? ⟨w8.heap.size, 2, none⟩ = some (.int .i64 29) := cell_of_row _ _ _ _ _ _ r1
        have hY' : ¬ 9991 < Y := by omega
        clear r1 hb10 hof2 HE8 hm
        go_wp2_with (go_at_call 11; refine (hle _).mono ?_; rintro e w11 ⟨rfl, rfl⟩)
        go_ret
        exact ⟨rfl, HE10.out.bel.alloc HE10.out.bel.size _⟩
      · have hv0 : -1035593280 ≤ v' ∧ v' ≤ 4223371679 := by
          rcases HV.out with h | h
          · exact ⟨h.2.2.2.1.1, h.2.2.2.1.2.1⟩
          · rw [h.2.1]; decide
        have hof := of_yes v' w7 HE7.out.tab hv0.1 hv0.2
        clear hv0 HV
        go_wp2_with fail
        refine hof.mono ?_
        rintro e w8 ⟨⟨y, m, d, h, mi, wd, rfl, hA⟩, hb8⟩
        have HE8 := Hid.mk'' (HE7.out.below hb8)
        have hof2 : ∀ o, Calls Tryd.prog 10 #[.int .i64 a] (w8.alloc o) _ := fun o => of_at HAT.out (w8.alloc o) (HE8.out.below ((Below.refl _ _).alloc (Nat.le_refl _) o)).tab (by omega) (by omega)
        clear hof hb8 hA HE7
        go_wp2_with (go_at_call 9; refine (hm _).mono ?_; rintro e w9 ⟨rfl, rfl⟩)
        refine (hof2 _).mono ?_
        rintro e w10 ⟨rfl, hb10⟩
        have HE10 : Hid (EW eLeap E5 w w10) := (HE8.out.below ((Below.refl _ _).alloc (Nat.le_refl _) _)).below hb10
        have hY' : 9991 < Y := by omega
        clear hb10 hof2 HE8 hm
        go_wp2_with fail
        go_ret
        exact ⟨rfl, HE10.out.bel.alloc HE10.out.bel.size _⟩
end Go.Proofs.YtdojpnhjnhecmabDoor
