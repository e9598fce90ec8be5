/- The document's Next and Prev, where they are refused; Prev. -/
import Derived.Test.YtdojpnhjnhecmaaDoorQ3
namespace Go.Proofs.YtdojpnhjnhecmaaDoor
open Go Go.RowKit
set_option maxHeartbeats 1000000 in
theorem rnext_no (e : Exp) (n : Int) (w : World) (g0 : -9223372036854775808 ≤ n) (g1 : n ≤ 9223372036854775807) (hn : n < -1035593280 ∨ 4223371679 < n) :
    Calls Tryd.prog 16 #[expV e, .int .i64 n] w fun r w' => r = .returned (.tuple #[.int .i64 0, .int .i64 1]) ∧ Below w.heap.size w w' := by
  have hof : ∀ o, Calls Tryd.prog 38 #[.int .i64 n] (w.alloc o) _ := fun o => rof_no n (w.alloc o) g0 g1 hn
  clear hn g0 g1
  unfold expV
  go_enter Tryd.func16, Tryd.ntmps16
  go_wp2_with fail
  refine (hof _).mono ?_
  rintro e' w2 ⟨rfl, hb⟩
  have HB : Hid (Below w.heap.size w w2) := ((Below.refl _ _).alloc (Nat.le_refl _) _).trans (hb.mono (by simp))
  clear hb hof
  go_wp2_with fail
  go_ret2
  exact ⟨rfl, HB.out.alloc HB.out.size _⟩
set_option maxHeartbeats 1000000 in
theorem rprev_no (e : Exp) (n a : Int) (w : World) (g0 : -9223372036854775808 ≤ n) (g1 : n ≤ 9223372036854775807) (hn : n < -1035593280 ∨ 4223371679 < n) :
    Calls Tryd.prog 18 #[expV e, .int .i64 n, .int .i64 a] w fun r w' => r = .returned (.tuple #[.int .i64 0, .int .i64 1]) ∧ Below w.heap.size w w' := by
  have hof : ∀ o, Calls Tryd.prog 38 #[.int .i64 n] (w.alloc o) _ := fun o => rof_no n (w.alloc o) g0 g1 hn
  clear hn g0 g1
  unfold expV
  go_enter Tryd.func18, Tryd.ntmps18
  go_wp2_with fail
  refine (hof _).mono ?_
  rintro e' w2 ⟨rfl, hb⟩
  have HB : Hid (Below w.heap.size w w2) := ((Below.refl _ _).alloc (Nat.le_refl _) _).trans (hb.mono (by simp))
  clear hb hof
  go_wp2_with fail
  go_ret2
  exact ⟨rfl, HB.out.alloc HB.out.size _⟩
set_option maxHeartbeats 1000000 in
theorem rprev_not (e : Exp) (n a : Int) (w : World) (h0 : -1035593280 ≤ n) (h1 : n ≤ 4223371679) (ha : n ≤ a) :
    Calls Tryd.prog 18 #[expV e, .int .i64 n, .int .i64 a] w fun r w' => r = .returned (.tuple #[.int .i64 0, .int .i64 1]) ∧ Below w.heap.size w w' := by
  have hof : ∀ o, Calls Tryd.prog 38 #[.int .i64 n] (w.alloc o) _ := fun o => rof_yes n (w.alloc o) h0 h1
  unfold expV
  go_enter Tryd.func18, Tryd.ntmps18
  go_wp2_with fail
  refine (hof _).mono ?_
  rintro e' w2 ⟨⟨y, m, d, h, mi, wd, rfl, hA⟩, hb⟩
  have HB : Hid (Below w.heap.size w w2) := ((Below.refl _ _).alloc (Nat.le_refl _) _).trans (hb.mono (by simp))
  clear hb hof hA
  go_wp2_with fail
  go_ret2
  exact ⟨rfl, HB.out.alloc HB.out.size _⟩
set_option maxRecDepth 100000 in
set_option maxHeartbeats 2000000 in
theorem rprev_yes (e : Exp) (he : e.Ok) (n a : Int) (w : World) (h0 : -1035593280 ≤ n) (h1 : n ≤ 4223371679) (ha : a < n) :
    Calls Tryd.prog 18 #[expV e, .int .i64 n, .int .i64 a] w fun r w' => (∃ v c, r = .returned (.tuple #[.int .i64 v, .int .i64 c]) ∧ PrevIs e n a v c) ∧ Below w.heap.size w w' := by
  have HE := Hid.mk'' he
  have hof : ∀ o, Calls Tryd.prog 38 #[.int .i64 n] (w.alloc o) _ := fun o => rof_yes n (w.alloc o) h0 h1
  clear he
  unfold expV
  go_enter Tryd.func18, Tryd.ntmps18
  go_wp2_with fail
  refine (hof _).mono ?_
  rintro e' w2 ⟨⟨y0, m0, d0, h0', mi0, wd0, rfl, hA⟩, hb⟩
  obtain ⟨r1, hz, hB⟩ := one_box hb
  have HR0 : Hid (RD e w.heap.size w2.heap.size w (w2.alloc (.cells #[.int .i64 y0, .int .i64 m0, .int .i64 d0, .int .i64 h0', .int .i64 mi0, .int .i64 wd0] 55)) y0 m0 d0 h0' mi0 wd0) :=
    ⟨(RW.below ⟨r1, hB⟩ ((Below.refl _ _).alloc (Nat.le_refl _) _)), heap_alloc_new w2 _, hz, Nat.le_refl _⟩
  obtain ⟨V, hV⟩ : ∃ V, V = w2.alloc (.cells #[.int .i64 y0, .int .i64 m0, .int .i64 d0, .int .i64 h0', .int .i64 mi0, .int .i64 wd0] 55) := ⟨_, rfl⟩
  rw [← hV] at HR0
  obtain ⟨b1, b2, b3, b4, b5, b6, q1, q2, q3, q4, q5, q6⟩ := hA.bd
  have e1 := hA.hour
  have e2 := hA.minute
  have hmid : (n - h0' * 60 - mi0 + 1035593280) % 1440 = 0 := by omega
  have HMID := Hid.mk'' hmid
  clear hof hb r1 hB hA e1 e2 b5 b6 hmid
  go_upto_region 2 with (fail)
  rw [← hV]
  clear hV
  generalize hEE : w.heap.size = E at HR0 ⊢
  generalize w2.heap.size = D at *
  clear hEE
  have j3 : V.cell? ⟨D, 3, none⟩ = some (.int .i64 h0') := cell_of_row _ _ _ _ _ _ HR0.out.row
  have j4 : V.cell? ⟨D, 4, none⟩ = some (.int .i64 mi0) := cell_of_row _ _ _ _ _ _ HR0.out.row
  go_wp2_with fail
  go_loopw [9, 10, 11] (fun _ bb ff W => ∃ (b f : Int) (y m d h mi wd : Int), bb = .int .i64 b ∧ ff = .int .i64 f ∧ 0 ≤ f ∧ f < 1440 ∧ b ≤ 4223371679 ∧ n - 4222000 ≤ b ∧ b + f ≤ n ∧ Hid ((b + 1035593280) % 1440 = 0) ∧ Hid (∀ k, b + f < k → k ≤ n → ¬ Mt e k) ∧ Hid (RD e E D w W y m d h mi wd)) (fun _ bb _ _ => (intOf bb - n + 4222000).toNat)
  case atStart => exact ⟨_, _, _, _, _, _, _, _, rfl, rfl, by omega, by omega, by omega, by omega, by omega, HMID, Hid.mk'' (fun k a b => by omega), HR0⟩
  case round =>
    obtain ⟨b, f, y0, m0, d0, h0, mi0, wd0, rfl, rfl, f0, f1, hlast, hi, hnf, HM, HN, HR⟩ := hrel
    clear HR0 HMID j3 j4
    by_cases hh : n - b ≤ 4217760
    · by_cases hg : a < b + 1440
      · by_cases lo : -1035593280 ≤ b
        · have hof := rof_yes b wr lo hlast
          go_wp2_with fail
          refine hof.mono ?_
          rintro e' w3 ⟨⟨y, m, d, h, mi, wd, rfl, hA⟩, hb3⟩
          obtain ⟨rfl, rfl⟩ := midnight HM.out hA
          obtain ⟨b1, b2, b3, b4, b5, b6, q1, q2, q3, q4, q5, q6⟩ := hA.bd
          have HA := Hid.mk'' hA
          have HR3 := Hid.mk'' (HR.out.below hb3)
          have HR4 := Hid.mk'' (HR3.out.set y m d 0 0 wd)
          have hd := rday_any e HE.out m d wd (by omega) (by omega) (by omega) (by omega) (by omega) (by omega)
          have z0 : w3.cell? ⟨D, 0, none⟩ = some (.int .i64 y0) := cell_of_row _ _ _ _ _ _ HR3.out.row
          have g0 := frozen_of_row w3 D 0 _ 55 HR3.out.row
          have z1 : w3.cell? ⟨D, 1, none⟩ = some (.int .i64 m0) := cell_of_row _ _ _ _ _ _ HR3.out.row
          have g1 := frozen_of_row w3 D 1 _ 55 HR3.out.row
          have z2 : w3.cell? ⟨D, 2, none⟩ = some (.int .i64 d0) := cell_of_row _ _ _ _ _ _ HR3.out.row
          have g2 := frozen_of_row w3 D 2 _ 55 HR3.out.row
          have z3 : w3.cell? ⟨D, 3, none⟩ = some (.int .i64 h0) := cell_of_row _ _ _ _ _ _ HR3.out.row
          have g3 := frozen_of_row w3 D 3 _ 55 HR3.out.row
          have z4 : w3.cell? ⟨D, 4, none⟩ = some (.int .i64 mi0) := cell_of_row _ _ _ _ _ _ HR3.out.row
          have g4 := frozen_of_row w3 D 4 _ 55 HR3.out.row
          have z5 : w3.cell? ⟨D, 5, none⟩ = some (.int .i64 wd0) := cell_of_row _ _ _ _ _ _ HR3.out.row
          have g5 := frozen_of_row w3 D 5 _ 55 HR3.out.row
          clear hof hb3 hA b5 b6 HR
          obtain ⟨V3, hV⟩ : ∃ V, V = (((((w3.setCell ⟨D, 0, none⟩ (.int .i64 y)).setCell ⟨D, 1, none⟩ (.int .i64 m)).setCell ⟨D, 2, none⟩ (.int .i64 d)).setCell ⟨D, 3, none⟩ (.int .i64 0)).setCell ⟨D, 4, none⟩ (.int .i64 0)).setCell ⟨D, 5, none⟩ (.int .i64 wd) := ⟨_, rfl⟩
          rw [← hV] at HR4
          go_upto_region 8 with (fail)
          rw [← hV]
          clear hV HR3 z0 z1 z2 z3 z4 z5 g0 g1 g2 g3 g4 g5
          obtain ⟨k0, k1, k2, k3, k4, k5, k6⟩ := HR4.out.rw.cells
          have j1 : V3.cell? ⟨D, 1, none⟩ = some (.int .i64 m) := cell_of_row _ _ _ _ _ _ HR4.out.row
          have j2 : V3.cell? ⟨D, 2, none⟩ = some (.int .i64 d) := cell_of_row _ _ _ _ _ _ HR4.out.row
          have j5 : V3.cell? ⟨D, 5, none⟩ = some (.int .i64 wd) := cell_of_row _ _ _ _ _ _ HR4.out.row
          unfold expV at hd
          go_wp2_with fail
          refine (hd _).mono ?_
          rintro e' w5 ⟨rfl, hb5⟩
          have HR5 := Hid.mk'' (HR4.out.below hb5)
          clear hd hb5 HR4 k0 k1 k2 k3 k4 k5 k6 j1 j2 j5
          cases hdr : dayR e m d wd with
          | false =>
            have HN2 : Hid (∀ k, b - 1440 + 1439 < k → k ≤ n → ¬ Mt e k) := fun k x c => by
              rcases Int.lt_or_le (b + f) k with h | h
              · exact HN.out k h c
              · exact day_none HM.out HA.out lo hlast hdr (by omega) (by omega)
            clear hdr
            go_wp2_with fail
            go_roundw
            case rel => exact ⟨b - 1440, 1439, _, _, _, _, _, _, rfl, rfl, by omega, by omega, by omega, by omega, by omega, Hid.mk'' (by have := HM.out; omega), HN2, HR5⟩
            case measure => simp [intOf]; omega
          | true =>
            have hid := inDayBack_any e HE.out f f0 f1 w5
            obtain ⟨k0, k1, k2, k3, k4, k5, k6⟩ := HR5.out.rw.cells
            have HDR := Hid.mk'' hdr
            clear hdr
            unfold expV at hid
            go_wp2_with fail
            refine hid.mono ?_
            rintro e' w6 ⟨⟨v, rfl, hv⟩, hb6⟩
            have HR6 := Hid.mk'' (HR5.out.below hb6)
            clear hid hb6 HR5 k0 k1 k2 k3 k4 k5 k6
            rcases hv with ⟨v1, v2, v3, v4⟩ | ⟨rfl, v4⟩
            · have hMt : Mt e (b + v) := (day_mt HM.out HA.out v1 (by omega) lo hlast).2 ⟨HDR.out, v3⟩
              have HMt := Hid.mk'' hMt
              have HN2 : Hid (∀ k, b + v < k → k ≤ n → ¬ Mt e k) := fun k x c => by
                rcases Int.lt_or_le (b + f) k with h | h
                · exact HN.out k h c
                · exact day_no HM.out HA.out lo hlast (by omega) (by omega) (v4 _ (by omega) (by omega))
              clear hMt v3 v4
              by_cases hh2 : b + v ≤ a
              · go_wp2_with fail
                go_ret2
                exact ⟨⟨0, 28, rfl, .inr ⟨rfl, rfl, fun k x c _ => HN2.out k (by omega) c⟩⟩, HR6.out.rw.bel⟩
              · by_cases hh3 : n - b - v ≤ 4216320
                · go_wp2_with fail
                  go_ret2
                  exact ⟨⟨b + v, 0, rfl, .inl ⟨rfl, by omega, by omega, by omega, HMt.out, HN2.out⟩⟩, HR6.out.rw.bel⟩
                · go_wp2_with fail
                  go_ret2
                  exact ⟨⟨0, 28, rfl, .inr ⟨rfl, rfl, fun k x c _ => HN2.out k (by omega) c⟩⟩, HR6.out.rw.bel⟩
            · have HN2 : Hid (∀ k, b - 1440 + 1439 < k → k ≤ n → ¬ Mt e k) := fun k x c => by
                rcases Int.lt_or_le (b + f) k with h | h
                · exact HN.out k h c
                · exact day_no HM.out HA.out lo hlast (by omega) (by omega) (v4 _ (by omega) (by omega))
              clear v4
              go_wp2_with fail
              go_roundw
              case rel => exact ⟨b - 1440, 1439, _, _, _, _, _, _, rfl, rfl, by omega, by omega, by omega, by omega, by omega, Hid.mk'' (by have := HM.out; omega), HN2, HR6⟩
              case measure => simp [intOf]; omega
        · have hof := rof_no b wr (by omega) (by omega) (.inl (by omega))
          have hmm := HM.out
          have hfar : b + f < -1035593280 := by omega
          clear hmm
          go_wp2_with fail
          refine hof.mono ?_
          rintro e' w3 ⟨rfl, hb3⟩
          have HR3 := Hid.mk'' (HR.out.below hb3)
          have HR4 := Hid.mk'' (HR3.out.set 0 0 0 0 0 0)
          have z0 : w3.cell? ⟨D, 0, none⟩ = some (.int .i64 y0) := cell_of_row _ _ _ _ _ _ HR3.out.row
          have g0 := frozen_of_row w3 D 0 _ 55 HR3.out.row
          have z1 : w3.cell? ⟨D, 1, none⟩ = some (.int .i64 m0) := cell_of_row _ _ _ _ _ _ HR3.out.row
          have g1 := frozen_of_row w3 D 1 _ 55 HR3.out.row
          have z2 : w3.cell? ⟨D, 2, none⟩ = some (.int .i64 d0) := cell_of_row _ _ _ _ _ _ HR3.out.row
          have g2 := frozen_of_row w3 D 2 _ 55 HR3.out.row
          have z3 : w3.cell? ⟨D, 3, none⟩ = some (.int .i64 h0) := cell_of_row _ _ _ _ _ _ HR3.out.row
          have g3 := frozen_of_row w3 D 3 _ 55 HR3.out.row
          have z4 : w3.cell? ⟨D, 4, none⟩ = some (.int .i64 mi0) := cell_of_row _ _ _ _ _ _ HR3.out.row
          have g4 := frozen_of_row w3 D 4 _ 55 HR3.out.row
          have z5 : w3.cell? ⟨D, 5, none⟩ = some (.int .i64 wd0) := cell_of_row _ _ _ _ _ _ HR3.out.row
          have g5 := frozen_of_row w3 D 5 _ 55 HR3.out.row
          clear hof hb3 HR
          go_wp2_with fail
          go_ret2
          exact ⟨⟨0, 28, rfl, .inr ⟨rfl, rfl, fun k x c _ => by
            rcases Int.lt_or_le (b + f) k with h | h
            · exact HN.out k h c
            · exact fun hM => by have := hM.1; omega⟩⟩, HR4.out.rw.bel⟩
      · go_wp2_with fail
        go_ret2
        exact ⟨⟨0, 28, rfl, .inr ⟨rfl, rfl, fun k x c _ => HN.out k (by omega) c⟩⟩, HR.out.rw.bel⟩
    · go_wp2_with fail
      go_ret2
      exact ⟨⟨0, 28, rfl, .inr ⟨rfl, rfl, fun k x c z => HN.out k (by omega) c⟩⟩, HR.out.rw.bel⟩
end Go.Proofs.YtdojpnhjnhecmaaDoor
