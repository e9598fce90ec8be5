/- WatchOver's walk. -/
import Derived.Test.YtjdmgmnndfhmgaaOA
namespace Go.Proofs.Ytjdmgmnndfhmgaa
open Go Go.RowKit
section
variable {w0 w : World} {s h : Nat} {E : List Evd} {x y : Wd} {l : List Evd}
theorem LV.poll0 (H : LV w0 w s h E x) (most mo : Int) (hmo : mo = max most 1) (he : endE x = 0) (ht : tellE E x mo = l) (hn : nextE E x mo = y) :
    Calls Try.prog 9 #[ptr h, .int .i64 1, .int .i64 most] w fun e w' => ∃ p c, e = .returned (.tuple #[.slice p l.length c, .int .i64 0]) ∧ Hid (EVs w' (.slice p l.length c) l ∧ LV w0 w' s h E y) := by
  refine (H.poll most mo hmo).mono ?_
  rintro e w' ⟨p, c, rfl, hq⟩
  obtain ⟨q1, q2⟩ := hq.out
  rw [if_pos he, hn] at q2
  rw [ht] at q1
  rw [ht, he]
  exact ⟨p, c, rfl, q1, q2⟩
theorem LV.pollN (H : LV w0 w s h E x) (most mo : Int) (hmo : mo = max most 1) (v : Int) (hv : endE x = v) (h0 : v ≠ 0) (ht : tellE E x mo = []) :
    Calls Try.prog 9 #[ptr h, .int .i64 1, .int .i64 most] w fun e w' => ∃ p c, e = .returned (.tuple #[.slice p 0 c, .int .i64 v]) ∧ Hid (LW w0 w' s h E 1 [] X0) := by
  refine (H.poll most mo hmo).mono ?_
  rintro e w' ⟨p, c, rfl, hq⟩
  obtain ⟨q1, q2⟩ := hq.out
  rw [if_neg (by rw [hv]; exact h0)] at q2
  rw [ht, hv]
  exact ⟨p, c, rfl, q2⟩
end
set_option maxRecDepth 100000 in
set_option maxHeartbeats 8000000 in
theorem over_walk (n0 m0 : Int) (w : World) : Calls Try.prog 3 #[.int .i64 n0, .int .i64 m0] w fun e w' => e = .returned (.bool true) ∧ Below w.heap.size w w' := by
  have hkn := known_any w
  have HNEW : Hid (∀ w1, Below w.heap.size w w1 → Calls Try.prog 6 #[] w1 fun e w' => ∃ s, e = .returned (ptr s) ∧ Hid (LS w w' s [])) := fun w1 hb => ls_new w w1 hb
  obtain ⟨nn, hnn⟩ : ∃ nn : Nat, (nn : Int) = withinF n0 40 := ⟨(withinF n0 40).toNat, by have := within_bd n0 40 (by decide); omega⟩
  obtain ⟨mm, hmm⟩ : ∃ mm : Int, mm = withinF m0 20 := ⟨_, rfl⟩
  have hnb : nn < 40 := by have := within_bd n0 40 (by decide); omega
  have hmb : 0 ≤ mm ∧ mm < 20 := by have := within_bd m0 20 (by decide); omega
  have hw1 := fun W => within_any n0 40 W (by decide) (by decide)
  have hw2 := fun W => within_any m0 20 W (by decide) (by decide)
  rw [← hnn] at hw1
  rw [← hmm] at hw2
  clear hnn hmm
  go_enter Try.func3, Try.ntmps3
  go_upto_region 9 with (first
    | (go_at_call 5; refine hkn.mono ?_; rintro e w1 ⟨rfl, hb1⟩; have hnew := HNEW.out w1 hb1)
    | (go_at_call 6; refine hnew.mono ?_; rintro e w2 ⟨s, rfl, HS⟩; have hhub := HS.out.hub X0)
    | (go_at_call 7; refine hhub.mono ?_; rintro e w3 ⟨h, rfl, HW⟩; have hone := HW.out.one kK ByteArray.empty (by decide) (by decide) 1 (by decide))
    | (go_at_call 8; refine hone.mono ?_; rintro e w4 ⟨rfl, HV⟩; have hpl := HV.out.poll 5 5 (by decide); rw [(XO_first 5).1, (XO_first 5).2] at hpl)
    | (go_at_call 9; refine hpl.mono ?_; rintro e w5 ⟨p5, c5, rfl, HQ⟩; have HV5 : Hid (LV w w5 s h [] (XO [])) := HQ.out.2))
  clear hkn HNEW hnew HS hhub HW hone HV hpl HQ
  go_upto_region 10 with (first
    | (go_at_call 10; with_reducible refine (hw1 _).mono ?_; rintro e w' ⟨rfl, hw'⟩; obtain rfl := hw'.symm)
    | (go_at_call 10; with_reducible refine (hw2 _).mono ?_; rintro e w' ⟨rfl, hw'⟩; obtain rfl := hw'.symm))
  clear hw1 hw2
  go_wp2
  go_loopg [10] (nn + 1) (fun kx s10 wr => ∃ (i : Nat) (E : List Evd), s10 = .int .i64 i ∧ kx + i = nn + 1 ∧ i ≤ nn ∧ Hid (E.length = i) ∧ Hid (LV w wr s h E (XO E)))
  case atStart => exact ⟨0, [], rfl, rfl, by omega, rfl, HV5⟩
  case round =>
    obtain ⟨i, E, rfl, hkx, hi, HEL, HM⟩ := hrel
    have hElen : E.length ≤ 1000 := by have := HEL.out; omega
    by_cases hlt : i < nn
    · have hp := HM.out.put hElen kK (by decide)
      go_wp2_with (first
        | (go_at_call 11; refine hp.mono ?_; rintro e w6 ⟨rfl, HP⟩; obtain ⟨ev, hev1, hev2⟩ := HP.out; have hfd := hev1.feed; rw [XO_feed E ev (by rw [heard_p hev2]; decide)] at hfd)
        | (go_at_call 12; refine hfd.mono ?_; rintro e w7 ⟨rfl, HF⟩))
      go_roundg (nn - i)
      case measure => omega
      case rel => exact ⟨i + 1, E ++ [ev], by congr 1, by omega, by omega, by show _ = _; rw [List.length_append, HEL.out]; rfl, HF⟩
    · obtain rfl : i = nn := by omega
      have hEl := HEL.out
      have HREV : Hid (∀ (j : Nat) (e : Evd), E[j]? = some e → e.1 = (j : Int) + 1) := fun j e hj => HM.out.revs hj
      obtain ⟨N, hN⟩ : ∃ N, N = min E.length 16 := ⟨_, rfl⟩
      have hN16 : N ≤ 16 := by omega
      have HN : Hid (N = min E.length 16) := hN
      have hNi : (if (16 : Int) < (i : Int) then (16 : Int) else (i : Int)) = (N : Int) := by rw [hN, hEl]; split <;> omega
      clear hlt hkx hi HV5 hN
      go_wp2
      go_loopg [8, 9, 11, 12, 13] 18 (fun kx s8 s9 s11 s12 s13 wr => ∃ (got k : Nat), s11 = .int .i64 got ∧ s12 = .int .i64 k ∧ kx + k = 18 ∧ k ≤ got ∧ got ≤ N ∧ Hid (LV w wr s h E (XP E got)))
      case atStart => exact ⟨0, 0, rfl, rfl, rfl, Nat.le_refl _, Nat.zero_le _, HM⟩
      case round =>
        obtain ⟨got, k, rfl, rfl, hkx, hkg, hgN, HV⟩ := hrel
        by_cases hlt : got < N
        · obtain ⟨t, t1, t2, t3, t4, t5, t6⟩ := XP_more E got (by rw [← HN.out]; exact hlt) (1 + mm) (by omega)
          obtain ⟨L, hL⟩ : ∃ L, L = ((E.take 16).drop got).take t := ⟨_, rfl⟩
          rw [← hL] at t3
          rw [t3] at t4
          have hpl := HV.out.poll0 (1 + mm) (1 + mm) (by omega) t5 t3 t6
          rw [t4] at hpl
          rw [← HN.out] at t2
          have HLR : Hid (∀ (j : Nat) (e : Evd), L[j]? = some e → e.1 = (got : Int) + j + 1) := fun j e hj => by
            rw [hL, List.getElem?_take] at hj
            split at hj
            · rw [List.getElem?_drop, List.getElem?_take] at hj
              split at hj
              · have := HREV.out _ e hj; omega
              · cases hj
            · cases hj
          have HT4 := Hid.mkW t4
          clear t3 t4 t5 t6 hL
          have ht0 : ¬ ((t : Int) = 0) := by omega
          go_wp2_with (first | (go_at_call 9; refine hpl.mono ?_; rintro e w6 ⟨p6, c6, rfl, HQ⟩))
          go_loopg [11, 13] (t + 1) (fun kx s11 s13 wr2 => ∃ (j : Nat), s11 = .int .i64 ((got + j : Nat) : Int) ∧ s13 = .int .i64 j ∧ kx + j = t + 1 ∧ j ≤ t ∧ wr2 = w6)
          case atStart => exact ⟨0, rfl, rfl, rfl, Nat.zero_le _, rfl⟩
          case round =>
            obtain ⟨j, rfl, rfl, hkx2, hjt, hwr2⟩ := hrel
            subst hwr2
            by_cases hjl : j < t
            · obtain ⟨ev, hev⟩ : ∃ ev, L[j]? = some ev := ⟨_, List.getElem?_eq_getElem (by have := HT4.out; omega)⟩
              obtain ⟨pp, cc, ep, hcc, hh⟩ := HQ.out.1
              obtain ⟨g, hg, _, hcell⟩ := hh j ev hev
              subst hg
              simp only [Value.slice.injEq] at ep
              obtain ⟨rfl, -, rfl⟩ := ep
              have e0 := hcell 0 (.int .i64 ev.1) (by omega) rfl
              rw [HLR.out j ev hev, Nat.add_zero] at e0
              have HC := Hid.mkW e0
              have hcc' : t ≤ c6 := by have := HT4.out; omega
              have hq : ((got : Int) + (j : Int) + 1 != (got : Int) + (j : Int) + 1) = false := by simp
              clear hh hcell hev hcc
              go_wp2
              go_roundg (t - j)
              case measure => omega
              case rel => exact ⟨j + 1, by congr 1, by congr 1, by omega, by omega, rfl⟩
            · obtain rfl : j = t := by omega
              go_wp2
              go_roundg (17 - k)
              case measure => omega
              case rel => exact ⟨got + j, k + 1, rfl, by congr 1, by omega, by omega, by omega, HQ.out.2⟩
        · obtain rfl : got = N := by omega
          obtain ⟨t1, t2, t3⟩ := XP_end E got HN.out (1 + mm)
          by_cases hle : E.length ≤ 16
          · rw [if_pos hle] at t2
            have hpl := HV.out.poll0 (1 + mm) (1 + mm) (by omega) t2 t1 t3
            have hq1 : (i : Int) ≤ 16 := by omega
            clear t1 t2 t3
            go_wp2_with (first
              | (go_at_call 9; refine hpl.mono ?_; rintro e w6 ⟨p6, c6, rfl, HQ⟩; have hlen := LW.len HQ.out.2)
              | (go_at_call 13; refine hlen.mono ?_; rintro e w7 ⟨rfl, hw7⟩; obtain rfl := hw7.symm))
            go_ret
            exact ⟨rfl, LW.below HQ.out.2⟩
          · rw [if_neg hle] at t2
            have hpl := HV.out.pollN (1 + mm) (1 + mm) (by omega) 14 t2 (by decide) t1
            have hq1 : ¬ (i : Int) ≤ 16 := by omega
            clear t1 t2 t3
            go_wp2_with (first
              | (go_at_call 9; with_reducible refine hpl.mono ?_; rintro e w6 ⟨p6, c6, rfl, HQ⟩; have hlen := LW.len HQ.out; have hno := HQ.out.none_ 1 1 (by decide) (by simp))
              | (go_at_call 9; with_reducible refine hno.mono ?_; rintro e w8 ⟨rfl, hw8⟩; obtain rfl := hw8.symm)
              | (go_at_call 13; refine hlen.mono ?_; rintro e w7 ⟨rfl, hw7⟩; obtain rfl := hw7.symm))
            go_ret
            exact ⟨rfl, LW.below HQ.out⟩
theorem watchOver_walk (x0 x1 : Int) (W : World) (_ : -9223372036854775808 ≤ x0 ∧ x0 ≤ 9223372036854775807) (_ : -9223372036854775808 ≤ x1 ∧ x1 ≤ 9223372036854775807) : Calls Try.prog 3 #[.int .i64 x0, .int .i64 x1] W fun e w' => e = .returned (.bool true) ∧ Below W.heap.size W w' := over_walk x0 x1 W
end Go.Proofs.Ytjdmgmnndfhmgaa
