/- CalWeeks, walked. -/
import Derived.Test.YthkfjaegnalakaaDoorC5
namespace Go.Proofs.YthkfjaegnalakaaDoor
open Go Go.RowKit
theorem week_num {n k : Int} : ((n + k * 1440 + 1035593280) / 1440 + 1) % 7 = (((n + 1035593280) / 1440 + 1) % 7 + k) % 7 := by omega
theorem week_hour {n k : Int} : (n + k * 1440 + 1035593280) % 1440 = (n + 1035593280) % 1440 := by omega
theorem week_min {n k : Int} : (n + k * 1440 + 1035593280) % 60 = (n + 1035593280) % 60 := by omega
set_option maxHeartbeats 1000000 in
theorem weeks_walk (x0 x1 : Int) (w : World) (hT : HasT w) (_b0 : -9223372036854775808 ≤ x0 ∧ x0 ≤ 9223372036854775807) (_b1 : -9223372036854775808 ≤ x1 ∧ x1 ≤ 9223372036854775807) : Calls Tryd.prog 6 #[.int .i64 x0, .int .i64 x1] w fun e w' => e = .returned (.bool true) ∧ Below w.heap.size w w' := by
  have hkn := known_any w hT
  have hw0 := fun W => within_any x0 5200000000 W (by decide) (by decide)
  have hw1 := fun W => within_any x1 4000 W (by decide) (by decide)
  have hb0 := withinF_bd x0 5200000000 (by decide)
  have hb1 := withinF_bd x1 4000 (by decide)
  generalize withinF x0 5200000000 = a at *
  generalize withinF x1 4000 = k at *
  have ho1 := fun W (hW : Below w.heap.size w W) => of_yes (a - 1035500000) W (hT.below hW) (by omega) (by omega)
  have ho2 := fun W (hW : Below w.heap.size w W) => of_yes (a - 1035500000 + k * 1440) W (hT.below hW) (by omega) (by omega)
  have H1 := Hid.mk' ho1
  have H2 := Hid.mk' ho2
  clear ho1 ho2
  go_enter Tryd.func6, Tryd.ntmps6
  go_wp2_with (first | (go_at_call 8; refine hkn.mono ?_; rintro e w1 ⟨rfl, hbl⟩) | (go_at_call_of 17 (Value.int IntKind.i64 x0); refine (hw0 _).mono ?_; rintro e w2 ⟨rfl, rfl⟩) | (go_at_call_of 17 (Value.int IntKind.i64 x1); refine (hw1 _).mono ?_; rintro e w2 ⟨rfl, rfl⟩))
  refine (H1.out w2 hbl).mono ?_
  rintro e w3 ⟨⟨y, m, d, h, mi, wd, rfl, hA⟩, hb3⟩
  have h2 := fun o => H2.out (w3.alloc o) ((hbl.trans (hb3.mono hbl.size)).alloc (Nat.le_trans hbl.size hb3.size) o)
  have HB3 : Hid (Below w.heap.size w w3) := hbl.trans (hb3.mono hbl.size)
  have HA := Hid.mk' hA
  clear hA hb3 hbl H1 H2 hkn hw0 hw1
  go_wp2_with fail
  refine (h2 _).mono ?_
  rintro e w4 ⟨⟨y', m', d', h', mi', wd', rfl, hA'⟩, hb4⟩
  obtain rfl : h' = h := by
    have e1 := HA.out.hour; have e2 := hA'.hour
    rw [week_hour] at e2; rw [e1, e2]
  obtain rfl : mi' = mi := by
    have e1 := HA.out.minute; have e2 := hA'.minute
    rw [week_min] at e2; rw [e1, e2]
  obtain rfl : wd' = (wd + k) % 7 := by
    have e1 := HA.out.wday; have e2 := hA'.wday
    rw [week_num] at e2; rw [e1, e2]
  have hwd : 0 ≤ wd ∧ wd ≤ 6 := by have e1 := HA.out.wday; omega
  have ht : (wd + k).tmod 7 = (wd + k) % 7 := Int.tmod_eq_emod_of_nonneg (by omega)
  have hs4 := hb4.size
  have HB4 : Hid (Below w.heap.size w w4) := (HB3.out.alloc HB3.out.size _).trans (hb4.mono (by have := HB3.out.size; simp; omega))
  have hrow := (hb4.block w3.heap.size (by simp)).trans (heap_alloc_new w3 _)
  have k3 : w4.cell? ⟨w3.heap.size, 3, none⟩ = some (.int .i64 h') := (cell_of_row _ _ _ _ _ _ hrow).trans rfl
  have k4 : w4.cell? ⟨w3.heap.size, 4, none⟩ = some (.int .i64 mi') := (cell_of_row _ _ _ _ _ _ hrow).trans rfl
  have k5 : w4.cell? ⟨w3.heap.size, 5, none⟩ = some (.int .i64 wd) := (cell_of_row _ _ _ _ _ _ hrow).trans rfl
  have hlt : w3.heap.size < w4.heap.size := by simp at hs4; omega
  clear hrow h2 hb4 hs4 HA hA'
  go_wp2
  go_ret
  exact ⟨rfl, HB4.out.alloc HB4.out.size _⟩
end Go.Proofs.YthkfjaegnalakaaDoor
