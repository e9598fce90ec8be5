/- WatchBehind's walk. -/
import Derived.Test.YtjdmgmnndfhmgaaGreatOA
namespace Go.Proofs.YtjdmgmnndfhmgaaGreat
open Go Go.RowKit
set_option maxRecDepth 100000 in
set_option maxHeartbeats 8000000 in
theorem behind_walk (n0 f0 a0 m0 : Int) (w : World) : Calls Tryz.prog 5 #[.int .i64 n0, .int .i64 f0, .int .i64 a0, .int .i64 m0] w fun e w' => e = .returned (.bool true) ∧ Below w.heap.size w w' := by
  have hkn := known_any w
  have HNEW : Hid (∀ w1, Below w.heap.size w w1 → Calls Tryz.prog 7 #[] w1 fun e w' => ∃ s, e = .returned (ptr s) ∧ Hid (LS w w' s [] 0)) := fun w1 hb => ls_new w w1 hb
  obtain ⟨u, hu⟩ : ∃ u : Nat, (u : Int) = withinF n0 40 := ⟨(withinF n0 40).toNat, by have := within_bd n0 40 (by decide); omega⟩
  have hub : u < 40 := by have := within_bd n0 40 (by decide); omega
  have hw1 := fun W => within_any n0 40 W (by decide) (by decide)
  rw [← hu] at hw1
  clear hu
  go_enter Tryz.func5, Tryz.ntmps5
  go_upto_region 6 with (first
    | (go_at_call 6; refine hkn.mono ?_; rintro e w1 ⟨rfl, hb1⟩; have hnew := HNEW.out w1 hb1)
    | (go_at_call 7; refine hnew.mono ?_; rintro e w2 ⟨s, rfl, HS⟩; have hhub := HS.out.hub X0)
    | (go_at_call 8; refine hhub.mono ?_; rintro e w3 ⟨h, rfl, HW⟩)
    | (go_at_call 10; with_reducible refine (hw1 _).mono ?_; rintro e w' ⟨rfl, hw'⟩; obtain rfl := hw'.symm))
  clear hkn HNEW hnew HS hhub hw1
  go_wp2
  go_loopg [11] (u + 2) (fun kx s11 wr => ∃ (i : Nat) (E : List Evd), s11 = .int .i64 i ∧ kx + i = u + 2 ∧ i ≤ u + 1 ∧ Hid (E.length = i) ∧ Hid (LW w wr s h E 0 0 [] X0 ∧ ∀ e ∈ E, heard kK ⟨#[]⟩ e = true))
  case atStart => exact ⟨0, [], rfl, rfl, by omega, rfl, HW.out, fun e he => by cases he⟩
  case round =>
    obtain ⟨i, E, rfl, hkx, hi, HEL, HM⟩ := hrel
    have hElen : E.length ≤ 1000 := by have := HEL.out; omega
    by_cases hlt : i < u + 1
    · have hp := HM.out.1.put hElen kK (by decide)
      go_wp2_with (first | (go_at_call 34; refine hp.mono ?_; rintro e w6 ⟨rfl, HP⟩))
      go_roundg (u + 1 - i)
      case measure => omega
      case rel =>
        obtain ⟨ev, hev1, hev2⟩ := HP.out
        refine ⟨i + 1, E ++ [ev], by congr 1, by omega, by omega, by show _ = _; rw [List.length_append, HEL.out]; rfl, hev1, fun e he => ?_⟩
        rcases List.mem_append.1 he with he | he
        · exact HM.out.2 e he
        · have he2 : e = ev := by simpa using he
          rw [he2, heard_p hev2]
          decide
    · obtain rfl : i = u + 1 := by omega
      have hEl := HEL.out
      have HALL : Hid (AllK E) := ⟨HM.out.2, fun j e hj => HM.out.1.revs hj⟩
      obtain ⟨a, ha⟩ : ∃ a : Nat, (a : Int) = withinF a0 (1 + (u : Int) + 1) := ⟨(withinF a0 (1 + (u : Int) + 1)).toNat, by have := within_bd a0 (1 + (u : Int) + 1) (by omega); omega⟩
      have hab : a ≤ u + 1 := by have := within_bd a0 (1 + (u : Int) + 1) (by omega); omega
      have hw2 := fun W => within_any a0 (1 + (u : Int) + 1) W (by omega) (by omega)
      rw [← ha] at hw2
      obtain ⟨v, hv⟩ : ∃ v : Nat, (v : Int) = withinF f0 (1 + (u : Int)) := ⟨(withinF f0 (1 + (u : Int))).toNat, by have := within_bd f0 (1 + (u : Int)) (by omega); omega⟩
      have hvb : v ≤ u := by have := within_bd f0 (1 + (u : Int)) (by omega); omega
      have hw3 := fun W => within_any f0 (1 + (u : Int)) W (by omega) (by omega)
      rw [← hv] at hw3
      obtain ⟨q, hq⟩ : ∃ q : Nat, (q : Int) = withinF m0 9 := ⟨(withinF m0 9).toNat, by have := within_bd m0 9 (by decide); omega⟩
      have hqb : q < 9 := by have := within_bd m0 9 (by decide); omega
      have hw4 := fun W => within_any m0 9 W (by decide) (by decide)
      rw [← hq] at hw4
      have HC : Hid (0 < a → Calls Tryz.prog 28 #[ptr s, .int .i64 a] wr fun e w' => e = .returned (.int .i64 0) ∧ Hid (LW w w' s h E a 0 [] X0)) := fun h0 => HM.out.1.compact hElen a (by omega) (by omega)
      have HZ : Hid (a = 0 → LW w wr s h E a 0 [] X0) := fun h0 => by rw [h0]; exact HM.out.1
      have HONE : Hid (∀ W, LW w W s h E a 0 [] X0 → Calls Tryz.prog 21 #[ptr h, .string kK, .string ⟨#[]⟩, .int .i64 (1 + (v : Int))] W fun e w' => e = .returned (.int .i64 1) ∧ Hid (LV w w' s h E a (XB (v + 1)))) := fun W hW => by
        have := hW.one kK ⟨#[]⟩ (by decide) (by decide) (1 + (v : Int)) (by omega)
        have e : (⟨kK, ⟨#[]⟩, max (1 + (v : Int)) 1, false, [], 0⟩ : Wd) = XB (v + 1) := wd_eq rfl rfl (by show max (1 + (v : Int)) 1 = ((v + 1 : Nat) : Int); omega) rfl rfl rfl
        rw [e] at this
        exact this
      clear ha hv hq HM hlt hkx hi HW
      have HAB := Hid.mkW hab
      by_cases ha0 : 0 < a
      · have hcm := HC.out ha0
        go_upto_region 13 with (first
          | (go_at_call 10; with_reducible refine (hw2 _).mono ?_; rintro e w' ⟨rfl, hw'⟩; obtain rfl := hw'.symm)
          | (go_at_call 28; refine hcm.mono ?_; rintro e w6 ⟨rfl, HCW⟩; have hone := HONE.out _ HCW.out))
        clear hcm HCW hw2
        clear HC HZ HONE
        go_upto_region 16 with (first
          | (go_at_call 10; with_reducible refine (hw3 _).mono ?_; rintro e w' ⟨rfl, hw'⟩; obtain rfl := hw'.symm)
          | (go_at_call 10; with_reducible refine (hw4 _).mono ?_; rintro e w' ⟨rfl, hw'⟩; obtain rfl := hw'.symm)
          | (go_at_call 21; refine hone.mono ?_; rintro e w7 ⟨rfl, HV0⟩))
        clear hone hw3 hw4
        go_wp2
        go_loopg [13, 14, 15, 16, 17] 61 (fun kx s13 s14 s15 s16 s17 wr => ∃ (g k : Nat), s13 = .int .i64 g ∧ s14 = .int .i64 k ∧ kx + k = 61 ∧ v + 1 + k ≤ g ∧ g ≤ u + 2 ∧ (v + 1 ≤ a → g = v + 1) ∧ Hid (LV w wr s h E a (XN (u + 1) g)))
        case atStart => exact ⟨v + 1, 0, by show Value.int .i64 (1 + (v : Int)) = Value.int .i64 ((v + 1 : Nat) : Int); congr 1; omega, rfl, rfl, Nat.le_refl _, by omega, fun _ => rfl, by rw [XN, if_neg (by omega)]; exact HV0⟩
        case round =>
          obtain ⟨g, k, rfl, rfl, hkx, hkg, hgN, hgp, HV⟩ := hrel
          by_cases hpast : v + 1 ≤ a
          · obtain rfl : g = v + 1 := hgp hpast
            have HV2 : Hid (LV w wr s h E a (XB (v + 1))) := by have := HV.out; rw [XN, if_neg (by omega)] at this; exact this
            have hpl := HV2.out.pollN (1 + (q : Int)) (1 + (q : Int)) (by omega) 16 (XB_past (E := E) hpast (1 + (q : Int))).1 (by decide) (XB_past hpast (1 + (q : Int))).2
            have hq1 : 1 + (v : Int) ≤ (a : Int) := by omega
            clear HV HV2
            go_wp2_with (first
              | (go_at_call 23; refine hpl.mono ?_; rintro e w8 ⟨p8, c8, rfl, HQ⟩; have hlen := LW.len HQ.out)
              | (go_at_call 30; refine hlen.mono ?_; rintro e w9 ⟨rfl, hw9⟩; obtain rfl := hw9.symm))
            go_ret
            exact ⟨rfl, LW.below HQ.out⟩
          · have hpq : ¬ 1 + (v : Int) ≤ (a : Int) := by omega
            by_cases hle : g ≤ u + 1
            · have HV2 : Hid (LV w wr s h E a (XB g)) := by have := HV.out; rw [XN, if_neg (by omega)] at this; exact this
              obtain ⟨t, t1, t2, t3, t4, t5, t6, t7⟩ := XB_poll HALL.out (a := a) (p := g) (by omega) (by omega) (1 + (q : Int)) (by omega)
              obtain ⟨L, hL⟩ : ∃ L, L = (E.drop (g - 1)).take t := ⟨_, rfl⟩
              rw [← hL] at t5
              rw [t5] at t6
              have hpl := HV2.out.poll0 (1 + (q : Int)) (1 + (q : Int)) (by omega) t4 t5 t7
              rw [t6] at hpl
              rw [hEl] at t3
              have HLR : Hid (∀ (j : Nat) (e : Evd), L[j]? = some e → e.1 = (g : Int) + (j : Int)) := fun j e hj => by
                rw [hL, List.getElem?_take] at hj
                split at hj
                · rw [List.getElem?_drop] at hj
                  have := HALL.out.2 _ e hj; omega
                · cases hj
              have HT4 := Hid.mkW t6
              clear t4 t5 t6 t7 hL HV HV2
              have ht0 : ¬ ((t : Int) = 0) := by omega
              go_wp2_with (first | (go_at_call 23; refine hpl.mono ?_; rintro e w8 ⟨p6, c6, rfl, HQ⟩))
              go_loopg [13, 17] (t + 1) (fun kx s13 s17 wr2 => ∃ (j : Nat), s13 = .int .i64 ((g + j : Nat) : Int) ∧ s17 = .int .i64 j ∧ kx + j = t + 1 ∧ j ≤ t ∧ wr2 = w8)
              case atStart => exact ⟨0, rfl, rfl, rfl, Nat.zero_le _, rfl⟩
              case round =>
                obtain ⟨j, rfl, rfl, hkx2, hjt, hwr2⟩ := hrel
                subst hwr2
                by_cases hjl : j < t
                · obtain ⟨ev, hev⟩ : ∃ ev, L[j]? = some ev := ⟨_, List.getElem?_eq_getElem (by have := HT4.out; omega)⟩
                  obtain ⟨pp, cc, ep, hcc, hh⟩ := HQ.out.1
                  obtain ⟨gg, hg, _, hcell⟩ := hh j ev hev
                  subst hg
                  simp only [Value.slice.injEq] at ep
                  obtain ⟨rfl, -, rfl⟩ := ep
                  have e0 := hcell 0 (.int .i64 ev.1) (by omega) rfl
                  rw [HLR.out j ev hev, Nat.add_zero] at e0
                  have HC := Hid.mkW e0
                  have hcc' : t ≤ c6 := by have := HT4.out; omega
                  have hq : ((g : Int) + (j : Int) != (g : Int) + (j : Int)) = false := by simp
                  clear hh hcell hev hcc
                  go_wp2
                  go_roundg (t - j)
                  case measure => omega
                  case rel => exact ⟨j + 1, by congr 1, by congr 1, by omega, by omega, rfl⟩
                · obtain rfl : j = t := by omega
                  go_wp2
                  go_roundg (60 - k)
                  case measure => omega
                  case rel => exact ⟨g + j, k + 1, rfl, by congr 1, by omega, by omega, by omega, by omega, by have := HQ.out.2; rw [hEl] at this; exact this⟩
            · obtain rfl : g = u + 2 := by omega
              have HV2 : Hid (LV w wr s h E a (XF (u + 1))) := by have := HV.out; rw [XN, if_pos rfl] at this; exact this
              obtain ⟨t1, t2, t3⟩ := XF_poll E a (u + 1) (1 + (q : Int))
              have hpl := HV2.out.poll0 (1 + (q : Int)) (1 + (q : Int)) (by omega) t1 t2 t3
              clear t1 t2 t3 HV HV2
              go_wp2_with (first
                | (go_at_call 23; refine hpl.mono ?_; rintro e w8 ⟨p6, c6, rfl, HQ⟩))
              go_ret
              refine ⟨?_, LW.below HQ.out.2⟩
              show Ending.returned (Value.bool ((u : Int) + 2 == 1 + (u : Int) + 1)) = _
              have hqe : ((u : Int) + 2 == 1 + (u : Int) + 1) = true := by rw [beq_iff_eq]; omega
              rw [hqe]
      · have hone := HONE.out _ (HZ.out (by omega))
        obtain rfl : a = 0 := by omega
        go_upto_region 13 with (first
          | (go_at_call 10; with_reducible refine (hw2 _).mono ?_; rintro e w' ⟨rfl, hw'⟩; obtain rfl := hw'.symm))
        clear hw2
        clear HC HZ HONE
        go_upto_region 16 with (first
          | (go_at_call 10; with_reducible refine (hw3 _).mono ?_; rintro e w' ⟨rfl, hw'⟩; obtain rfl := hw'.symm)
          | (go_at_call 10; with_reducible refine (hw4 _).mono ?_; rintro e w' ⟨rfl, hw'⟩; obtain rfl := hw'.symm)
          | (go_at_call 21; refine hone.mono ?_; rintro e w7 ⟨rfl, HV0⟩))
        clear hone hw3 hw4
        go_wp2
        go_loopg [13, 14, 15, 16, 17] 61 (fun kx s13 s14 s15 s16 s17 wr => ∃ (g k : Nat), s13 = .int .i64 g ∧ s14 = .int .i64 k ∧ kx + k = 61 ∧ v + 1 + k ≤ g ∧ g ≤ u + 2 ∧ (v + 1 ≤ 0 → g = v + 1) ∧ Hid (LV w wr s h E 0 (XN (u + 1) g)))
        case atStart => exact ⟨v + 1, 0, by show Value.int .i64 (1 + (v : Int)) = Value.int .i64 ((v + 1 : Nat) : Int); congr 1; omega, rfl, rfl, Nat.le_refl _, by omega, fun _ => rfl, by rw [XN, if_neg (by omega)]; exact HV0⟩
        case round =>
          obtain ⟨g, k, rfl, rfl, hkx, hkg, hgN, hgp, HV⟩ := hrel
          by_cases hpast : v + 1 ≤ 0
          · exact absurd hpast (by omega)
          · have hpq : ¬ 1 + (v : Int) ≤ (0 : Int) := by omega
            by_cases hle : g ≤ u + 1
            · have HV2 : Hid (LV w wr s h E 0 (XB g)) := by have := HV.out; rw [XN, if_neg (by omega)] at this; exact this
              obtain ⟨t, t1, t2, t3, t4, t5, t6, t7⟩ := XB_poll HALL.out (a := 0) (p := g) (by omega) (by omega) (1 + (q : Int)) (by omega)
              obtain ⟨L, hL⟩ : ∃ L, L = (E.drop (g - 1)).take t := ⟨_, rfl⟩
              rw [← hL] at t5
              rw [t5] at t6
              have hpl := HV2.out.poll0 (1 + (q : Int)) (1 + (q : Int)) (by omega) t4 t5 t7
              rw [t6] at hpl
              rw [hEl] at t3
              have HLR : Hid (∀ (j : Nat) (e : Evd), L[j]? = some e → e.1 = (g : Int) + (j : Int)) := fun j e hj => by
                rw [hL, List.getElem?_take] at hj
                split at hj
                · rw [List.getElem?_drop] at hj
                  have := HALL.out.2 _ e hj; omega
                · cases hj
              have HT4 := Hid.mkW t6
              clear t4 t5 t6 t7 hL HV HV2
              have ht0 : ¬ ((t : Int) = 0) := by omega
              go_wp2_with (first | (go_at_call 23; refine hpl.mono ?_; rintro e w8 ⟨p6, c6, rfl, HQ⟩))
              go_loopg [13, 17] (t + 1) (fun kx s13 s17 wr2 => ∃ (j : Nat), s13 = .int .i64 ((g + j : Nat) : Int) ∧ s17 = .int .i64 j ∧ kx + j = t + 1 ∧ j ≤ t ∧ wr2 = w8)
              case atStart => exact ⟨0, rfl, rfl, rfl, Nat.zero_le _, rfl⟩
              case round =>
                obtain ⟨j, rfl, rfl, hkx2, hjt, hwr2⟩ := hrel
                subst hwr2
                by_cases hjl : j < t
                · obtain ⟨ev, hev⟩ : ∃ ev, L[j]? = some ev := ⟨_, List.getElem?_eq_getElem (by have := HT4.out; omega)⟩
                  obtain ⟨pp, cc, ep, hcc, hh⟩ := HQ.out.1
                  obtain ⟨gg, hg, _, hcell⟩ := hh j ev hev
                  subst hg
                  simp only [Value.slice.injEq] at ep
                  obtain ⟨rfl, -, rfl⟩ := ep
                  have e0 := hcell 0 (.int .i64 ev.1) (by omega) rfl
                  rw [HLR.out j ev hev, Nat.add_zero] at e0
                  have HC := Hid.mkW e0
                  have hcc' : t ≤ c6 := by have := HT4.out; omega
                  have hq : ((g : Int) + (j : Int) != (g : Int) + (j : Int)) = false := by simp
                  clear hh hcell hev hcc
                  go_wp2
                  go_roundg (t - j)
                  case measure => omega
                  case rel => exact ⟨j + 1, by congr 1, by congr 1, by omega, by omega, rfl⟩
                · obtain rfl : j = t := by omega
                  go_wp2
                  go_roundg (60 - k)
                  case measure => omega
                  case rel => exact ⟨g + j, k + 1, rfl, by congr 1, by omega, by omega, by omega, by omega, by have := HQ.out.2; rw [hEl] at this; exact this⟩
            · obtain rfl : g = u + 2 := by omega
              have HV2 : Hid (LV w wr s h E 0 (XF (u + 1))) := by have := HV.out; rw [XN, if_pos rfl] at this; exact this
              obtain ⟨t1, t2, t3⟩ := XF_poll E 0 (u + 1) (1 + (q : Int))
              have hpl := HV2.out.poll0 (1 + (q : Int)) (1 + (q : Int)) (by omega) t1 t2 t3
              clear t1 t2 t3 HV HV2
              go_wp2_with (first
                | (go_at_call 23; refine hpl.mono ?_; rintro e w8 ⟨p6, c6, rfl, HQ⟩))
              go_ret
              refine ⟨?_, LW.below HQ.out.2⟩
              show Ending.returned (Value.bool ((u : Int) + 2 == 1 + (u : Int) + 1)) = _
              have hqe : ((u : Int) + 2 == 1 + (u : Int) + 1) = true := by rw [beq_iff_eq]; omega
              rw [hqe]
theorem watchBehind_walk (x0 x1 x2 x3 : Int) (W : World) (_ : -9223372036854775808 ≤ x0 ∧ x0 ≤ 9223372036854775807) (_ : -9223372036854775808 ≤ x1 ∧ x1 ≤ 9223372036854775807) (_ : -9223372036854775808 ≤ x2 ∧ x2 ≤ 9223372036854775807) (_ : -9223372036854775808 ≤ x3 ∧ x3 ≤ 9223372036854775807) : Calls Tryz.prog 5 #[.int .i64 x0, .int .i64 x1, .int .i64 x2, .int .i64 x3] W fun e w' => e = .returned (.bool true) ∧ Below W.heap.size W w' := behind_walk x0 x1 x2 x3 W
end Go.Proofs.YtjdmgmnndfhmgaaGreat
