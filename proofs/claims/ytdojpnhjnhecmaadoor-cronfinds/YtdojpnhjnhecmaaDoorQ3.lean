/- The document's Next and Prev. -/
import Derived.Test.YtdojpnhjnhecmaaDoorQ2
namespace Go.Proofs.YtdojpnhjnhecmaaDoor
open Go Go.RowKit
/-- The document's expression and a date in their boxes. -/
structure RD (x : Exp) (E D : Nat) (w W : World) (y m d h mi wd : Int) : Prop where
  rw : RW x E w W
  row : W.heap[D]? = some (.cells #[.int .i64 y, .int .i64 m, .int .i64 d, .int .i64 h, .int .i64 mi, .int .i64 wd] 55 (0, 0))
  lt : E < D
  ge : w.heap.size ≤ E
theorem RD.below {x : Exp} {E D : Nat} {w W W' : World} {y m d h mi wd : Int} (h0 : RD x E D w W y m d h mi wd) (hb : Below W.heap.size W W') : RD x E D w W' y m d h mi wd :=
  ⟨h0.rw.below hb, (hb.block D (lt_of_row h0.row)).trans h0.row, h0.lt, h0.ge⟩
theorem RD.set {x : Exp} {E D : Nat} {w W : World} {y m d h mi wd : Int} (h0 : RD x E D w W y m d h mi wd) (y' m' d' h' mi' wd' : Int) :
    RD x E D w ((((((W.setCell ⟨D, 0, none⟩ (.int .i64 y')).setCell ⟨D, 1, none⟩ (.int .i64 m')).setCell ⟨D, 2, none⟩ (.int .i64 d')).setCell ⟨D, 3, none⟩ (.int .i64 h')).setCell ⟨D, 4, none⟩ (.int .i64 mi')).setCell ⟨D, 5, none⟩ (.int .i64 wd')) y' m' d' h' mi' wd' := by
  have hl := h0.lt
  have hg := h0.ge
  refine ⟨⟨?_, ?_⟩, ?_, hl, hg⟩
  · rw [heap_setCell_other _ _ (by show D ≠ E; omega), heap_setCell_other _ _ (by show D ≠ E; omega), heap_setCell_other _ _ (by show D ≠ E; omega), heap_setCell_other _ _ (by show D ≠ E; omega), heap_setCell_other _ _ (by show D ≠ E; omega), heap_setCell_other _ _ (by show D ≠ E; omega)]
    exact h0.rw.row
  · exact (((((h0.rw.bel.setCell (by show w.heap.size ≤ D; omega) _).setCell (by show w.heap.size ≤ D; omega) _).setCell (by show w.heap.size ≤ D; omega) _).setCell (by show w.heap.size ≤ D; omega) _).setCell (by show w.heap.size ≤ D; omega) _).setCell (by show w.heap.size ≤ D; omega) _
  · exact heap_setCell_row (heap_setCell_row (heap_setCell_row (heap_setCell_row (heap_setCell_row (heap_setCell_row h0.row 0 (.int .i64 y')) 1 (.int .i64 m')) 2 (.int .i64 d')) 3 (.int .i64 h')) 4 (.int .i64 mi')) 5 (.int .i64 wd')
set_option maxRecDepth 100000 in
set_option maxHeartbeats 2000000 in
theorem rnext_yes (e : Exp) (he : e.Ok) (n : Int) (w : World) (h0 : -1035593280 ≤ n) (h1 : n ≤ 4223371679) :
    Calls Tryd.prog 16 #[expV e, .int .i64 n] w fun r w' => (∃ v c, r = .returned (.tuple #[.int .i64 v, .int .i64 c]) ∧ NextIs e n v c) ∧ Below w.heap.size w w' := by
  have HE := Hid.mk'' he
  have hof : ∀ o, Calls Tryd.prog 38 #[.int .i64 n] (w.alloc o) _ := fun o => rof_yes n (w.alloc o) h0 h1
  clear he
  unfold expV
  go_enter Tryd.func16, Tryd.ntmps16
  go_wp2_with fail
  refine (hof _).mono ?_
  rintro e' w2 ⟨⟨y0, m0, d0, h0', mi0, wd0, rfl, hA⟩, hb⟩
  obtain ⟨r1, hz, hB⟩ := one_box hb
  have HR0 : Hid (RD e w.heap.size w2.heap.size w (w2.alloc (.cells #[.int .i64 y0, .int .i64 m0, .int .i64 d0, .int .i64 h0', .int .i64 mi0, .int .i64 wd0] 55)) y0 m0 d0 h0' mi0 wd0) :=
    ⟨(RW.below ⟨r1, hB⟩ ((Below.refl _ _).alloc (Nat.le_refl _) _)), heap_alloc_new w2 _, hz, Nat.le_refl _⟩
  obtain ⟨V, hV⟩ : ∃ V, V = w2.alloc (.cells #[.int .i64 y0, .int .i64 m0, .int .i64 d0, .int .i64 h0', .int .i64 mi0, .int .i64 wd0] 55) := ⟨_, rfl⟩
  rw [← hV] at HR0
  obtain ⟨b1, b2, b3, b4, b5, b6, q1, q2, q3, q4, q5, q6⟩ := hA.bd
  have e1 := hA.hour
  have e2 := hA.minute
  have hmid : (n - h0' * 60 - mi0 + 1035593280) % 1440 = 0 := by omega
  have hlow : -1035593280 ≤ n - h0' * 60 - mi0 := by omega
  have HMID := Hid.mk'' hmid
  have HLOW := Hid.mk'' hlow
  clear hof hb r1 hB hA e1 e2 b5 b6 hmid hlow
  go_upto_region 2 with (fail)
  rw [← hV]
  clear hV
  generalize hEE : w.heap.size = E at HR0 ⊢
  generalize w2.heap.size = D at *
  clear hEE
  have j3 : V.cell? ⟨D, 3, none⟩ = some (.int .i64 h0') := cell_of_row _ _ _ _ _ _ HR0.out.row
  have j4 : V.cell? ⟨D, 4, none⟩ = some (.int .i64 mi0) := cell_of_row _ _ _ _ _ _ HR0.out.row
  go_wp2_with fail
  go_loopw [7, 8, 9] (fun _ bb ff W => ∃ (b f : Int) (y m d h mi wd : Int), bb = .int .i64 b ∧ ff = .int .i64 f ∧ 0 ≤ f ∧ f ≤ 1440 ∧ -1035593280 ≤ b ∧ b ≤ n + 4220000 ∧ n < b + f ∧ Hid ((b + 1035593280) % 1440 = 0) ∧ Hid (∀ k, n < k → k < b + f → ¬ Mt e k) ∧ Hid (RD e E D w W y m d h mi wd)) (fun _ bb _ _ => (n + 4220000 - intOf bb).toNat)
  case atStart => exact ⟨_, _, _, _, _, _, _, _, rfl, rfl, by omega, by omega, HLOW.out, by omega, by omega, HMID, Hid.mk'' (fun k a b => by omega), HR0⟩
  case round =>
    obtain ⟨b, f, y0, m0, d0, h0, mi0, wd0, rfl, rfl, f0, f1, lo, hi, hnf, HM, HN, HR⟩ := hrel
    clear HR0 HMID HLOW j3 j4
    by_cases hh : b - n ≤ 4216320
    · by_cases hlast : b ≤ 4223371679
      · have hof := rof_yes b wr lo hlast
        go_wp2_with fail
        refine hof.mono ?_
        rintro e' w3 ⟨⟨y, m, d, h, mi, wd, rfl, hA⟩, hb3⟩
        obtain ⟨rfl, rfl⟩ := midnight HM.out hA
        obtain ⟨b1, b2, b3, b4, b5, b6, q1, q2, q3, q4, q5, q6⟩ := hA.bd
        have HA := Hid.mk'' hA
        have HR3 := Hid.mk'' (HR.out.below hb3)
        have HR4 := Hid.mk'' (HR3.out.set y m d 0 0 wd)
        have hd := rday_any e HE.out m d wd (by omega) (by omega) (by omega) (by omega) (by omega) (by omega)
        have z0 : w3.cell? ⟨D, 0, none⟩ = some (.int .i64 y0) := cell_of_row _ _ _ _ _ _ HR3.out.row
        have g0 := frozen_of_row w3 D 0 _ 55 HR3.out.row
        have z1 : w3.cell? ⟨D, 1, none⟩ = some (.int .i64 m0) := cell_of_row _ _ _ _ _ _ HR3.out.row
        have g1 := frozen_of_row w3 D 1 _ 55 HR3.out.row
        have z2 : w3.cell? ⟨D, 2, none⟩ = some (.int .i64 d0) := cell_of_row _ _ _ _ _ _ HR3.out.row
        have g2 := frozen_of_row w3 D 2 _ 55 HR3.out.row
        have z3 : w3.cell? ⟨D, 3, none⟩ = some (.int .i64 h0) := cell_of_row _ _ _ _ _ _ HR3.out.row
        have g3 := frozen_of_row w3 D 3 _ 55 HR3.out.row
        have z4 : w3.cell? ⟨D, 4, none⟩ = some (.int .i64 mi0) := cell_of_row _ _ _ _ _ _ HR3.out.row
        have g4 := frozen_of_row w3 D 4 _ 55 HR3.out.row
        have z5 : w3.cell? ⟨D, 5, none⟩ = some (.int .i64 wd0) := cell_of_row _ _ _ _ _ _ HR3.out.row
        have g5 := frozen_of_row w3 D 5 _ 55 HR3.out.row
        clear hof hb3 hA b5 b6 HR
        obtain ⟨V3, hV⟩ : ∃ V, V = (((((w3.setCell ⟨D, 0, none⟩ (.int .i64 y)).setCell ⟨D, 1, none⟩ (.int .i64 m)).setCell ⟨D, 2, none⟩ (.int .i64 d)).setCell ⟨D, 3, none⟩ (.int .i64 0)).setCell ⟨D, 4, none⟩ (.int .i64 0)).setCell ⟨D, 5, none⟩ (.int .i64 wd) := ⟨_, rfl⟩
        rw [← hV] at HR4
        go_upto_region 8 with (fail)
        rw [← hV]
        clear hV HR3 z0 z1 z2 z3 z4 z5 g0 g1 g2 g3 g4 g5
        obtain ⟨k0, k1, k2, k3, k4, k5, k6⟩ := HR4.out.rw.cells
        have j1 : V3.cell? ⟨D, 1, none⟩ = some (.int .i64 m) := cell_of_row _ _ _ _ _ _ HR4.out.row
        have j2 : V3.cell? ⟨D, 2, none⟩ = some (.int .i64 d) := cell_of_row _ _ _ _ _ _ HR4.out.row
        have j5 : V3.cell? ⟨D, 5, none⟩ = some (.int .i64 wd) := cell_of_row _ _ _ _ _ _ HR4.out.row
        unfold expV at hd
        go_wp2_with fail
        refine (hd _).mono ?_
        rintro e' w5 ⟨rfl, hb5⟩
        have HR5 := Hid.mk'' (HR4.out.below hb5)
        clear hd hb5 HR4 k0 k1 k2 k3 k4 k5 k6 j1 j2 j5
        cases hdr : dayR e m d wd with
        | false =>
          have HN2 : Hid (∀ k, n < k → k < b + 1440 + 0 → ¬ Mt e k) := fun k a c => by
            rcases Int.lt_or_le k (b + f) with h | h
            · exact HN.out k a h
            · exact day_none HM.out HA.out lo hlast hdr (by omega) (by omega)
          clear hdr
          go_wp2_with fail
          go_roundw
          case rel => exact ⟨b + 1440, 0, _, _, _, _, _, _, rfl, rfl, by omega, by omega, by omega, by omega, by omega, Hid.mk'' (by have := HM.out; omega), HN2, HR5⟩
          case measure => simp [intOf]; omega
        | true =>
          have hid := inDay_any e HE.out f f0 f1 w5
          obtain ⟨k0, k1, k2, k3, k4, k5, k6⟩ := HR5.out.rw.cells
          have HDR := Hid.mk'' hdr
          clear hdr
          unfold expV at hid
          go_wp2_with fail
          refine hid.mono ?_
          rintro e' w6 ⟨⟨v, rfl, hv⟩, hb6⟩
          have HR6 := Hid.mk'' (HR5.out.below hb6)
          clear hid hb6 HR5 k0 k1 k2 k3 k4 k5 k6
          rcases hv with ⟨v1, v2, v3, v4⟩ | ⟨rfl, v4⟩
          · have hMt : Mt e (b + v) := (day_mt HM.out HA.out (by omega) v2 lo hlast).2 ⟨HDR.out, v3⟩
            have HMt := Hid.mk'' hMt
            have HN2 : Hid (∀ k, n < k → k < b + v → ¬ Mt e k) := fun k a c => by
              rcases Int.lt_or_le k (b + f) with h | h
              · exact HN.out k a h
              · exact day_no HM.out HA.out lo hlast (by omega) (by omega) (v4 _ (by omega) (by omega))
            clear hMt v3 v4
            by_cases hh2 : b + v - n ≤ 4216320
            · go_wp2_with fail
              go_ret2
              exact ⟨⟨b + v, 0, rfl, .inl ⟨rfl, by omega, by omega, HMt.out, HN2.out⟩⟩, HR6.out.rw.bel⟩
            · go_wp2_with fail
              go_ret2
              exact ⟨⟨0, 28, rfl, .inr ⟨rfl, rfl, fun k a c => HN2.out k a (by omega)⟩⟩, HR6.out.rw.bel⟩
          · have HN2 : Hid (∀ k, n < k → k < b + 1440 + 0 → ¬ Mt e k) := fun k a c => by
              rcases Int.lt_or_le k (b + f) with h | h
              · exact HN.out k a h
              · exact day_no HM.out HA.out lo hlast (by omega) (by omega) (v4 _ (by omega) (by omega))
            clear v4
            go_wp2_with fail
            go_roundw
            case rel => exact ⟨b + 1440, 0, _, _, _, _, _, _, rfl, rfl, by omega, by omega, by omega, by omega, by omega, Hid.mk'' (by have := HM.out; omega), HN2, HR6⟩
            case measure => simp [intOf]; omega
      · have hof := rof_no b wr (by omega) (by omega) (.inr (by omega))
        go_wp2_with fail
        refine hof.mono ?_
        rintro e' w3 ⟨rfl, hb3⟩
        have HR3 := Hid.mk'' (HR.out.below hb3)
        have HR4 := Hid.mk'' (HR3.out.set 0 0 0 0 0 0)
        have z0 : w3.cell? ⟨D, 0, none⟩ = some (.int .i64 y0) := cell_of_row _ _ _ _ _ _ HR3.out.row
        have g0 := frozen_of_row w3 D 0 _ 55 HR3.out.row
        have z1 : w3.cell? ⟨D, 1, none⟩ = some (.int .i64 m0) := cell_of_row _ _ _ _ _ _ HR3.out.row
        have g1 := frozen_of_row w3 D 1 _ 55 HR3.out.row
        have z2 : w3.cell? ⟨D, 2, none⟩ = some (.int .i64 d0) := cell_of_row _ _ _ _ _ _ HR3.out.row
        have g2 := frozen_of_row w3 D 2 _ 55 HR3.out.row
        have z3 : w3.cell? ⟨D, 3, none⟩ = some (.int .i64 h0) := cell_of_row _ _ _ _ _ _ HR3.out.row
        have g3 := frozen_of_row w3 D 3 _ 55 HR3.out.row
        have z4 : w3.cell? ⟨D, 4, none⟩ = some (.int .i64 mi0) := cell_of_row _ _ _ _ _ _ HR3.out.row
        have g4 := frozen_of_row w3 D 4 _ 55 HR3.out.row
        have z5 : w3.cell? ⟨D, 5, none⟩ = some (.int .i64 wd0) := cell_of_row _ _ _ _ _ _ HR3.out.row
        have g5 := frozen_of_row w3 D 5 _ 55 HR3.out.row
        clear hof hb3 HR
        go_wp2_with fail
        go_ret2
        exact ⟨⟨0, 28, rfl, .inr ⟨rfl, rfl, fun k a c => by
          rcases Int.lt_or_le k (b + f) with h | h
          · exact HN.out k a h
          · exact fun hM => by have := hM.2.1; omega⟩⟩, HR4.out.rw.bel⟩
    · go_wp2_with fail
      go_ret2
      exact ⟨⟨0, 28, rfl, .inr ⟨rfl, rfl, fun k a c => HN.out k a (by omega)⟩⟩, HR.out.rw.bel⟩
end Go.Proofs.YtdojpnhjnhecmaaDoor
