/- CronEvery, walked. -/
import Derived.Test.YtdojpnhjnhecmaaDoorE1
namespace Go.Proofs.YtdojpnhjnhecmaaDoor
open Go Go.RowKit
def minF (n : Int) : Int := withinF n 5250000000 - 1035500000
theorem minF_bd (n : Int) : -1035500000 ≤ minF n ∧ minF n ≤ 4214499999 := by
  have := withinF_bd n 5250000000 (by decide)
  unfold minF; omega
set_option maxHeartbeats 400000 in
theorem minF_any (n : Int) (w : World) : Calls Tryd.prog 21 #[.int .i64 n] w fun e w' => e = .returned (.int .i64 (minF n)) ∧ w' = w := by
  have hw := fun W => within_any n 5250000000 W (by decide) (by decide)
  have hb := withinF_bd n 5250000000 (by decide)
  have HM : Hid (minF n = withinF n 5250000000 - 1035500000) := rfl
  generalize withinF n 5250000000 = a at *
  go_enter Tryd.func21, Tryd.ntmps21
  go_wp2_with (go_at_call 22; refine (hw _).mono ?_; rintro e w1 ⟨rfl, rfl⟩)
  go_ret
  exact ⟨ret_int HM.out.symm, rfl⟩
theorem bit60 : ∀ j : Fin 60, (1152921504606846975 : Nat).testBit j.val = true := by decide
theorem bit24 : ∀ j : Fin 24, (16777215 : Nat).testBit j.val = true := by decide
theorem bit12 : ∀ j : Fin 12, (8190 : Nat).testBit (j.val + 1) = true := by decide
theorem eAll_mt {n : Int} (h0 : -1035593280 ≤ n) (h1 : n ≤ 4223371679) : Mt eAll n := by
  obtain ⟨y, m, d, h, mi, wd, hA⟩ := at_exists n h0 h1
  have hb := hA.bd
  refine ⟨h0, h1, y, m, d, h, mi, wd, hA, ?_⟩
  have b1 := bit60 ⟨mi.toNat, by omega⟩
  have b2 := bit24 ⟨h.toNat, by omega⟩
  have b3 := bit12 ⟨m.toNat - 1, by omega⟩
  simp only at b1 b2 b3
  rw [show m.toNat - 1 + 1 = m.toNat by omega] at b3
  simp [okAt, dayOk, eAll, b1, b2, b3]
theorem eAll_next {n : Int} (h0 : -1035593280 ≤ n) (h1 : n < 4223371679) : NextIs eAll n (n + 1) 0 :=
  .inl ⟨rfl, by omega, by omega, eAll_mt (by omega) (by omega), fun k a b => by omega⟩
theorem eAll_prev {n a : Int} (h0 : -1035593280 ≤ n) (h1 : n ≤ 4223371679) (ha : a < n) : PrevIs eAll n a n 0 :=
  .inl ⟨rfl, ha, Int.le_refl _, by omega, eAll_mt h0 h1, fun k a b => by omega⟩
set_option maxHeartbeats 1000000 in
theorem every_walk (x0 x1 : Int) (w : World) (hT : HasT w) (_b0 : -9223372036854775808 ≤ x0 ∧ x0 ≤ 9223372036854775807) (_b1 : -9223372036854775808 ≤ x1 ∧ x1 ≤ 9223372036854775807) : Calls Tryd.prog 8 #[.int .i64 x0, .int .i64 x1] w fun e w' => e = .returned (.bool true) ∧ Below w.heap.size w w' := by
  have hkn := known_any w hT
  have HT : Hid (∀ w3, Below w.heap.size w w3 → HasT w3) := fun w3 h => hT.below h
  have hm := fun W => minF_any x0 W
  have hmb := minF_bd x0
  have hw1 := fun W => within_any x1 1000 W (by decide) (by decide)
  have hb1 := withinF_bd x1 1000 (by decide)
  generalize minF x0 = a at *
  generalize withinF x1 1000 = q at *
  clear hT
  go_enter Tryd.func8, Tryd.ntmps8
  go_wp2_with fail
  refine hkn.mono ?_
  rintro e w1 ⟨rfl, hb⟩
  have HB1 := Hid.mk'' hb
  have hp := parse_yes ⟨#[42, 32, 42, 32, 42, 32, 42, 32, 42]⟩ eAll parse_stars (by decide) w1 (HT.out _ hb)
  clear hkn hb
  unfold expV at hp
  go_wp2_with fail
  refine hp.mono ?_
  rintro e w2 ⟨rfl, hb2⟩
  have hb2' : Below w.heap.size w w2 := HB1.out.trans (hb2.mono HB1.out.size)
  have HE := Hid.mk'' (EW.start (x := eAll) hb2' (HT.out _ hb2'))
  obtain ⟨V, hV⟩ : ∃ V, V = w2.alloc (.cells #[.int .u64 eAll.mi, .int .u64 eAll.ho, .int .u64 eAll.da, .int .u64 eAll.mo, .int .u64 eAll.wk, .bool eAll.ad, .bool eAll.aw] 25) := ⟨_, rfl⟩
  rw [← hV] at HE
  clear hp hb2 hb2' HB1
  go_upto_region 4 with (fail)
  rw [← hV]
  clear hV
  generalize w2.heap.size = E at *
  obtain ⟨k0, k1, k2, k3, k4, k5, k6⟩ := HE.out.cells
  have nx := next_yes eAll eAll_oks a V HE.out.tab (by omega) (by omega)
  unfold expV at nx
  go_wp2_with (go_at_call 21; refine (hm _).mono ?_; rintro e w3 ⟨rfl, rfl⟩)
  refine nx.mono ?_
  rintro e w4 ⟨⟨v, c, rfl, hv⟩, hb4⟩
  obtain ⟨rfl, rfl⟩ := hv.uniq (eAll_next (by omega) (by omega))
  have HE4 := Hid.mk'' (HE.out.below hb4)
  clear nx hb4 HE hv k0 k1 k2 k3 k4 k5 k6 hm
  obtain ⟨k0, k1, k2, k3, k4, k5, k6⟩ := HE4.out.cells
  have pv : Calls Tryd.prog 17 #[expV eAll, .int .i64 a, .int .i64 (a - 1 - q)] w4.drew _ := prev_yes eAll eAll_oks a (a - 1 - q) w4.drew (HE4.out.tab.keep fun _ _ _ _ h => h) (by omega) (by omega) (by omega) (by omega)
  have e9 : IntKind.i64.wrap (IntKind.i64.wrap (a - 1) - q) = a - 1 - q := by rw [wrapI (x := a - 1) (by omega) (by omega), wrapI (by omega) (by omega)]
  rw [← e9] at pv
  clear e9
  unfold expV at pv
  go_wp2_with fail
  go_region_with (first | (go_at_call 22; refine (hw1 _).mono ?_; rintro e w5 ⟨rfl, rfl⟩) | (go_at_call 17; refine pv.mono ?_; rintro e w6 ⟨⟨v, c, rfl, hv⟩, hb6⟩))
  all_goals
    obtain ⟨rfl, rfl⟩ := hv.uniq (eAll_prev (by omega) (by omega) (by rw [wrapI (x := a - 1) (by omega) (by omega), wrapI (by omega) (by omega)]; omega))
    have HE6 : Hid (EW eAll E w w6) := (HE4.out.below (Below.refl _ _).drew).below hb6
    have mt := matches_any eAll eAll_oks v w6 HE6.out.tab
    clear hv hb6 HE4 k0 k1 k2 k3 k4 k5 k6 pv
    obtain ⟨k0, k1, k2, k3, k4, k5, k6⟩ := HE6.out.cells
    unfold expV at mt
    go_wp2_with fail
    refine mt.mono ?_
    rintro e w7 ⟨⟨b, rfl, hbm⟩, hb7⟩
    obtain rfl : b = true := hbm.2 (eAll_mt (by omega) (by omega))
    have HE7 := Hid.mk'' (HE6.out.below hb7)
    clear mt hb7 hbm HE6 k0 k1 k2 k3 k4 k5 k6
    go_wp2_with fail
    go_ret
    exact ⟨rfl, HE7.out.bel⟩
end Go.Proofs.YtdojpnhjnhecmaaDoor
