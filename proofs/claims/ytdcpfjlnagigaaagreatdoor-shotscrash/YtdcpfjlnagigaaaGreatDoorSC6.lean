/- ShotsCrash, walked, whole. -/
import Derived.Test.YtdcpfjlnagigaaaGreatDoorSC5
import Derived.Test.YtdcpfjlnagigaaaGreatDoorSR3
namespace Go.Proofs.YtdcpfjlnagigaaaGreatDoor
open Go Go.RowKit
set_option maxRecDepth 100000 in
set_option maxHeartbeats 4000000 in
theorem crash_long (hPY : ParseYes) (ao bo po : Option Addr) (na ca nb cb np cp : Nat) (x2 x3 : Bool) (x4 : Int) (w : World) (hT : HasTab w) (hna : na ≤ 140737488355328) (hnb : nb ≤ 140737488355328) (hs : 2000 < na + nb) :
    Calls Tryz.prog 4 #[.slice ao na ca, .slice bo nb cb, .bool x2, .bool x3, .int .i64 x4, .slice po np cp] w fun e w' => e = .returned (.bool true) ∧ Below w.heap.size w w' := by
  have hkn := known_any hPY w hT
  have hg1 : decide ((2000 : Int) < na + nb) = true := by simp; omega
  clear hT
  go_enter Tryz.func4, Tryz.ntmps4
  go_wp2_with (go_at_call 6; refine hkn.mono ?_; rintro e w1 ⟨rfl, hb1⟩)
  go_ret
  exact ⟨rfl, hb1⟩
set_option maxRecDepth 100000 in
set_option maxHeartbeats 4000000 in
theorem crash_many (hPY : ParseYes) (ao bo po : Option Addr) (na ca nb cb np cp : Nat) (x2 x3 : Bool) (x4 : Int) (w : World) (hT : HasTab w) (hs : na + nb ≤ 2000) (hp : 50 < np) :
    Calls Tryz.prog 4 #[.slice ao na ca, .slice bo nb cb, .bool x2, .bool x3, .int .i64 x4, .slice po np cp] w fun e w' => e = .returned (.bool true) ∧ Below w.heap.size w w' := by
  have hkn := known_any hPY w hT
  have hg1 : decide ((2000 : Int) < na + nb) = false := by simp; omega
  have hg2 : decide ((50 : Int) < np) = true := by simp; omega
  clear hT
  go_enter Tryz.func4, Tryz.ntmps4
  go_wp2_with (go_at_call 6; refine hkn.mono ?_; rintro e w1 ⟨rfl, hb1⟩)
  go_ret
  exact ⟨rfl, hb1⟩
theorem crashL_walk (va vb : Value) (x2 x3 : Bool) (x4 : Int) (vp : Value) (za zb zp : List Int) (w : World) (hT : HasTab w) (ha : Sees w va za) (hab : isB za) (hb : Sees w vb zb) (hbb : isB zb) (hp : SeesI w vp zp) (la : za.length ≤ 140737488355328) (lb : zb.length ≤ 140737488355328) :
    Calls Tryz.prog 4 #[va, vb, .bool x2, .bool x3, .int .i64 x4, vp] w fun e w' => e = .returned (.bool true) ∧ Below w.heap.size w w' := by
  obtain ⟨ao, ca, rfl⟩ := ha.form
  obtain ⟨bo, cb, rfl⟩ := hb.form
  obtain ⟨po, cp, rfl⟩ := hp.form
  by_cases h1 : 2000 < za.length + zb.length
  · exact crash_long parseYes ao bo po za.length ca zb.length cb zp.length cp x2 x3 x4 w hT la lb h1
  · by_cases h3 : 50 < zp.length
    · exact crash_many parseYes ao bo po za.length ca zb.length cb zp.length cp x2 x3 x4 w hT (by omega) h3
    · have h2 : Two za zb := ⟨hab, hbb, by omega⟩
      cases x2 with
      | true =>
        cases x3 with
        | true => exact crash_tt parseYes ao bo po za.length ca zb.length cb zp.length cp x4 za zb zp w hT h2 ha hb hp (by omega) (by omega)
        | false => exact crash_tf parseYes ao bo po za.length ca zb.length cb zp.length cp x4 za zb zp w hT h2 ha hb hp (by omega) (by omega)
      | false =>
        cases x3 with
        | true => exact crash_ft parseYes ao bo po za.length ca zb.length cb zp.length cp x4 za zb zp w hT h2 ha hb hp (by omega) (by omega)
        | false => exact crash_ff parseYes ao bo po za.length ca zb.length cb zp.length cp x4 za zb zp w hT h2 ha hb hp (by omega) (by omega)
end Go.Proofs.YtdcpfjlnagigaaaGreatDoor
