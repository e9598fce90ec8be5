/- A client's numbers may skip: each one above its last is done, none below, the last one is answered again. -/
import Derived.Test.YtcghaepjklmggaaFK
namespace Go.Proofs.Ytcghaepjklmggaa
open Go Go.RowKit
/-- The rows of one client. -/
def gapA (c last : Int) : List Ro := if last = 0 then [] else [⟨c, last, rpR (1000 + last), []⟩]
theorem gap_up {c last s : Int} (hc : 1 ≤ c) (hs : 1 ≤ s) (hl : last < s) (_h0 : 0 ≤ last) : askA (gapA c last) c s = (rp0, [], true) ∧ noteA (gapA c last) c s (rpR (1000 + s)) [] = gapA c s := by
  have h1 : askA (gapA c last) c s = (rp0, [], true) := by
    unfold askA gapA
    rw [if_neg (by omega), if_neg (by omega)]
    by_cases h : last = 0
    · simp [h, lookL]
    · simp [h, lookL]
      rw [if_neg (by omega), if_neg (by omega)]
  refine ⟨h1, ?_⟩
  unfold noteA
  rw [h1, if_pos ⟨rfl, by omega⟩]
  unfold gapA
  rw [if_neg (show ¬ s = 0 by omega)]
  by_cases h : last = 0
  · simp [h, delL, insL]
  · simp [h, delL, insL]
theorem gap_same {c s : Int} (hc : 1 ≤ c) (hs : 1 ≤ s) : askA (gapA c s) c s = (rpR (1000 + s), [], false) := by
  unfold askA gapA
  rw [if_neg (by omega), if_neg (by omega), if_neg (by omega)]
  simp [lookL]
theorem gap_down {c last s : Int} (hc : 1 ≤ c) (hs : 1 ≤ s) (hl : s < last) : askA (gapA c last) c s = (rpE 24, [], false) := by
  unfold askA gapA
  rw [if_neg (by omega), if_neg (by omega), if_neg (by omega)]
  simp [lookL, hl]
set_option maxRecDepth 100000 in
set_option maxHeartbeats 1000000 in
theorem folkGaps_walk (x : Int) (sv : Value) (zs : List Int) (w : World) (_hx : -9223372036854775808 ≤ x ∧ x ≤ 9223372036854775807) (hS : SeesI w sv zs) (_hl : zs.length ≤ 140737488355328) :
    Calls Try.prog 5 #[.int .i64 x, sv] w fun e w' => e = .returned (.bool true) ∧ Below w.heap.size w w' := by
  have hk := known_any w
  obtain ⟨t1, t2⟩ := withinF_bd x 1000 (by omega)
  obtain ⟨ao, cap, rfl⟩ := hS.form
  obtain ⟨u, hu⟩ : ∃ u, u = withinF x 1000 := ⟨_, rfl⟩
  have HUx := Hid.mk'' hu
  rw [← hu] at t1 t2
  clear hu
  go_enter Try.func5, Try.ntmps5
  go_wp2_with (first
    | (go_at_call 6; refine hk.mono ?_; rintro e w1 ⟨rfl, bel1⟩; have hn := new_tl w w1 bel1; clear hk)
    | (go_at_call 7; refine hn.mono ?_; rintro e w2 ⟨d, b, rfl, h2⟩; have H2 := Hid.mk'' h2; clear hn bel1 h2)
    | (go_at_call 14; refine (within_any _ _ _ (by omega) (by omega)).mono ?_; rintro e w3 ⟨rfl, hw3⟩; obtain rfl := hw3.symm; rw [← HUx.out]))
  have hblk : Hid (∀ j, j < zs.length → ∃ bb off, ao = some ⟨bb, off, none⟩ ∧ bb < w.heap.size ∧ w.cell? ⟨bb, off + j, none⟩ = some (.int .i64 (zs.getD j 0))) := fun j hj => hS.at hj
  clear hS
  go_loopg [6, 7] 41 (fun kx s6 s7 wq => ∃ (i : Nat) (last : Int), s6 = .int .i64 last ∧ s7 = .int .i64 i ∧ kx + i = 41 ∧ i ≤ 40 ∧ 0 ≤ last ∧ last ≤ 100 ∧ Hid (TL w wq d b (gapA (1 + u) last)))
  case atStart => exact ⟨0, 0, rfl, rfl, rfl, by omega, by omega, by omega, H2.out⟩
  case round =>
    obtain ⟨i, last, rfl, rfl, hkx, hi, n1, n2, HM⟩ := hrel
    clear H2
    by_cases hlt : i < zs.length ∧ i < 40
    · obtain ⟨hlt, h40⟩ := hlt
      obtain ⟨bb, off, rfl, hbb, hcell⟩ := hblk.out i hlt
      have kcell := (HM.out.bel.cell (p := ⟨bb, off + i, none⟩) hbb).trans hcell
      obtain ⟨z, hz⟩ : ∃ z, z = zs.getD i 0 := ⟨_, rfl⟩
      rw [← hz] at kcell
      obtain ⟨s1, s2⟩ := withinF_bd z 100 (by omega)
      obtain ⟨st, hst⟩ : ∃ st, st = withinF z 100 := ⟨_, rfl⟩
      rw [← hst] at s1 s2
      have HZ := Hid.mk'' hst
      clear hcell hz hst
      rcases Int.lt_trichotomy last (1 + st) with hc | hc | hc
      · obtain ⟨g1, g2⟩ := gap_up (c := 1 + u) (by omega) (s := 1 + st) (by omega) hc n1
        have ha := ask_tl HM.out _ _ (by unfold isI; omega) g1
        have HNT : Hid (∀ w5, TL w w5 d b (gapA (1 + u) last) → Calls Try.prog 11 #[ptr d, .int .i64 (1 + u), .int .i64 (1 + st), repV (rpR (1000 + (1 + st))) (.slice none 0 0)] w5 fun e w' => e = .returned (.tuple #[]) ∧ TL w w' d b (gapA (1 + u) (1 + st))) := fun w5 h5 => note_tl h5 _ _ (by unfold isI; omega) _ g2
        clear g1 g2
        go_wp2_with (first
          | (go_at_call 14; refine (within_any _ _ _ (by omega) (by omega)).mono ?_; rintro e w3 ⟨rfl, hw3⟩; obtain rfl := hw3.symm; rw [← HZ.out])
          | (go_at_call 8; refine ha.mono ?_; rintro e w4 ⟨p4, c4, rfl, h5, _⟩
             have hnt := HNT.out _ (h5.below ((Below.refl _ w4).alloc (Nat.le_refl _) (.cells #[.int .i64 0, .int .i64 0, .bool false, .slice p4 0 c4, .int .i64 0] 33)))
             clear ha h5)
          | (go_at_call 11; refine hnt.mono ?_; rintro e w6 ⟨rfl, h6⟩; clear hnt))
        go_roundg (40 - i)
        case measure => omega
        case rel => exact ⟨i + 1, 1 + st, rfl, by congr 1, by omega, by omega, by omega, by omega, h6⟩
      · subst hc
        have ha := ask_tl HM.out _ _ (by unfold isI; omega) (gap_same (c := 1 + u) (by omega) (s := 1 + st) (by omega))
        go_wp2_with (first
          | (go_at_call 14; refine (within_any _ _ _ (by omega) (by omega)).mono ?_; rintro e w3 ⟨rfl, hw3⟩; obtain rfl := hw3.symm; rw [← HZ.out])
          | (go_at_call 8; refine ha.mono ?_; rintro e w4 ⟨p4, c4, rfl, h5, _⟩; clear ha))
        go_roundg (40 - i)
        case measure => omega
        case rel => exact ⟨i + 1, 1 + st, rfl, by congr 1, by omega, by omega, by omega, by omega, h5.below ((Below.refl _ _).alloc (Nat.le_refl _) _)⟩
      · have ha := ask_tl HM.out _ _ (by unfold isI; omega) (gap_down (c := 1 + u) (by omega) (s := 1 + st) (by omega) hc)
        go_wp2_with (first
          | (go_at_call 14; refine (within_any _ _ _ (by omega) (by omega)).mono ?_; rintro e w3 ⟨rfl, hw3⟩; obtain rfl := hw3.symm; rw [← HZ.out])
          | (go_at_call 8; refine ha.mono ?_; rintro e w4 ⟨p4, c4, rfl, h5, _⟩; clear ha))
        go_roundg (40 - i)
        case measure => omega
        case rel => exact ⟨i + 1, last, rfl, by congr 1, by omega, by omega, by omega, by omega, h5.below ((Below.refl _ _).alloc (Nat.le_refl _) _)⟩
    · by_cases hl0 : last = 0
      · subst hl0
        have hal : Calls Try.prog 13 #[ptr d] wr fun e w' => ∃ p c, e = .returned (.slice p 0 c) ∧ TL w w' d b [] := (all_tl (A := []) HM.out).mono (by rintro e w' ⟨p, c, g, rfl, _, h6⟩; exact ⟨p, c, rfl, h6⟩)
        by_cases h1 : i < zs.length
        all_goals
          have h40 : ¬ (i < 40 ∧ i < zs.length) := fun h => hlt ⟨h.2, h.1⟩
          first | (have h2 : ¬ ((i : Int) < 40) := by omega) | skip
          clear hlt h40
          go_upto_region 22 with (go_at_call 13; refine hal.mono ?_; rintro e w7 ⟨p7, c7, rfl, h7⟩; clear hal)
          have H7 := Hid.mk'' h7.bel
          have hmm : ∀ ty w, (Builtin.min_ #[3, 3] ty #[.int .i64 0, .int .i64 1]).run Try.prog w = .ok (.int .i64 0) w := fun ty w => by kernel_rfl
          clear h7 h1 hi hkx n1 n2 _hl _hx t1 t2 hw3
          go_wp2
          go_ret
          exact ⟨rfl, H7.out⟩
      · have hg : gapA (1 + u) last = [⟨1 + u, last, rpR (1000 + last), []⟩] := by simp [gapA, hl0]
        rw [hg] at HM
        have hal : Calls Try.prog 13 #[ptr d] wr fun e w' => ∃ g c, e = .returned (.slice (some ⟨g, 0, none⟩) 1 c) ∧ w'.cell? ⟨g, 0, none⟩ = some (.int .i64 (1 + u)) ∧ w'.cell? ⟨g, 1, none⟩ = some (.int .i64 last) ∧ TL w w' d b [⟨1 + u, last, rpR (1000 + last), []⟩] := (all_tl HM.out).mono (by
          rintro e w' ⟨p, c, g, rfl, hr, h6⟩
          rcases hr.2 with ⟨_, h0⟩ | ⟨gg, cap', cur, e2, hbg, hh, q1, q2, q3, q4⟩
          · simp at h0
          · cases e2
            have c0 := hr.cells (g := gg) rfl 0 (.int .i64 (1 + u)) rfl
            have c1 := hr.cells (g := gg) rfl 1 (.int .i64 last) rfl
            exact ⟨gg, c, rfl, c0, c1, h6⟩)
        have hmm : ∀ ty w, (Builtin.min_ #[3, 3] ty #[.int .i64 last, .int .i64 1]).run Try.prog w = .ok (.int .i64 1) w := fun ty w => by
          have e : (if (1 : Int) < last then (1 : Int) else last) = 1 := by split <;> omega
          show Result.ok (Value.int .i64 (if (1 : Int) < last then (1 : Int) else last)) w = _
          rw [e]
        by_cases h1 : i < zs.length
        all_goals
          have h40 : ¬ (i < 40 ∧ i < zs.length) := fun h => hlt ⟨h.2, h.1⟩
          first | (have h2 : ¬ ((i : Int) < 40) := by omega) | skip
          clear hlt h40
          go_upto_region 22 with (go_at_call 13; refine hal.mono ?_; rintro e w7 ⟨g7, c7, rfl, y0, y1, h7⟩; clear hal)
          have H7 := Hid.mk'' h7.bel
          have hl1 : (last == 0) = false := by simp; exact hl0
          clear h7 h1 hi hkx n1 n2 _hl _hx t1 t2 hw3
          go_wp2
          go_ret
          exact ⟨rfl, H7.out⟩
end Go.Proofs.Ytcghaepjklmggaa
