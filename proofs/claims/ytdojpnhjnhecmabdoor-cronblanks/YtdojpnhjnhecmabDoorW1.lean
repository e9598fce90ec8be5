/- CronEvery, walked. -/
import Derived.Test.YtdojpnhjnhecmabDoorE1
namespace Go.Proofs.YtdojpnhjnhecmabDoor
open Go Go.RowKit
def minF (n : Int) : Int := withinF n 5250000000 - 1035500000
theorem minF_bd (n : Int) : -1035500000 ≤ minF n ∧ minF n ≤ 4214499999 := by
  have := withinF_bd n 5250000000 (by decide)
  unfold minF; omega
set_option maxHeartbeats 400000 in
theorem minF_any (n : Int) (w : World) : Calls Tryd.prog 9 #[.int .i64 n] w fun e w' => e = .returned (.int .i64 (minF n)) ∧ w' = w := by
  have hw := fun W => within_any n 5250000000 W (by decide) (by decide)
  have hb := withinF_bd n 5250000000 (by decide)
  have HM : Hid (minF n = withinF n 5250000000 - 1035500000) := rfl
  generalize withinF n 5250000000 = a at *
  go_enter Tryd.func9, Tryd.ntmps9
  go_wp2_with (go_at_call 12; refine (hw _).mono ?_; rintro e w1 ⟨rfl, rfl⟩)
  go_ret
  exact ⟨ret_int HM.out.symm, rfl⟩
theorem bit60 : ∀ j : Fin 60, (1152921504606846975 : Nat).testBit j.val = true := by decide
theorem bit24 : ∀ j : Fin 24, (16777215 : Nat).testBit j.val = true := by decide
theorem bit12 : ∀ j : Fin 12, (8190 : Nat).testBit (j.val + 1) = true := by decide
theorem eAll_mt {n : Int} (h0 : -1035593280 ≤ n) (h1 : n ≤ 4223371679) : Mt eAll n := by
  obtain ⟨y, m, d, h, mi, wd, hA⟩ := at_exists n h0 h1
  have hb := hA.bd
  refine ⟨h0, h1, y, m, d, h, mi, wd, hA, ?_⟩
  have b1 := bit60 ⟨mi.toNat, by omega⟩
  have b2 := bit24 ⟨h.toNat, by omega⟩
  have b3 := bit12 ⟨m.toNat - 1, by omega⟩
  simp only at b1 b2 b3
  rw [show m.toNat - 1 + 1 = m.toNat by omega] at b3
  simp [okAt, dayOk, eAll, b1, b2, b3]
theorem eAll_next {n : Int} (h0 : -1035593280 ≤ n) (h1 : n < 4223371679) : NextIs eAll n (n + 1) 0 :=
  .inl ⟨rfl, by omega, by omega, eAll_mt (by omega) (by omega), fun k a b => by omega⟩
theorem eAll_prev {n a : Int} (h0 : -1035593280 ≤ n) (h1 : n ≤ 4223371679) (ha : a < n) : PrevIs eAll n a n 0 :=
  .inl ⟨rfl, ha, Int.le_refl _, by omega, eAll_mt h0 h1, fun k a b => by omega⟩
end Go.Proofs.YtdojpnhjnhecmabDoor
