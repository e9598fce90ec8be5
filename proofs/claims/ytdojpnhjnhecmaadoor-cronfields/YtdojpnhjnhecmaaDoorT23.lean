/- A field's text: field 3. -/
import Derived.Test.YtdojpnhjnhecmaaDoorT2
namespace Go.Proofs.YtdojpnhjnhecmaaDoor
open Go Go.RowKit
set_option maxRecDepth 100000 in
set_option maxHeartbeats 1000000 in
theorem field_3 (x : Nat) (hx : x < 1152921504606846976) (w : World) (hT : HasT w) :
    Calls Tryd.prog 30 #[.int .i64 3, .int .u64 x, .bool false] w fun e w' => e = .returned (.string ⟨(fieldB 3 x false).toArray⟩) ∧ Below w.heap.size w w' := by
  obtain ⟨i0, hi0, hz0, hz1, hz2⟩ := info_parts info9
  have c0 := hT.bd 6 (by decide)
  have c1 := hT.bd 7 (by decide)
  have hsz := hT.size
  clear hT
  have HW := Hid.mk'' (FW.start (x := x) (hi := 12) (lo := 1) ((Below.refl (w.heap.size + 1) (w.alloc (.cells #[.int .i64 1, .int .i64 12] 98)))))
  have HF : Hid (fieldB 3 x false = Lib.join ((runsR x 12 1).map itemB) [44]) := rfl
  generalize (runsR x 12 1).map itemB = all at *
  go_enter Tryd.func30, Tryd.ntmps30
  go_wp2
  go_loopw [8, 9] (fun v n W => ∃ (k : Nat) (u : Value) (ms : List (List UInt8)), n = .int .i64 k ∧ v = u ∧ k ≤ 13 ∧ Hid (FW x 12 all (w.heap.size + 1) (w.alloc (.cells #[.int .i64 1, .int .i64 12] 98)) W k u ms)) (fun _ n _ => 13 - (intOf n).toNat)
  case atStart => exact ⟨1, _, [], rfl, rfl, by decide, HW⟩
  case round =>
    obtain ⟨k, u, ms, rfl, rfl, hk, HP⟩ := hrel
    clear HW c0 c1
    have hz := HP.out.bel.size
    simp only [World.size_alloc] at hz
    have j1 : wr.cell? ⟨w.heap.size, 1, none⟩ = some (.int .i64 12) := (HP.out.bel.cell (p := ⟨w.heap.size, 1, none⟩) (Nat.lt_succ_self _)).trans (cell_of_row _ _ _ _ _ _ (heap_alloc_new w _))
    have hall : ∀ (j : Nat), j ≤ 63 → ∀ W, Calls Tryd.prog 44 #[.int .u64 x, .int .i64 j] W _ := fun j hj W => allows_any x j W (by omega) hj
    by_cases hk59 : k ≤ 12
    · have ha1 := hall k (by omega) wr
      cases hb : x.testBit k with
      | false =>
        rw [hb] at ha1
        have HP1 := Hid.mk'' (HP.out.skip hk59 hb)
        clear hall
        go_wp2_with (go_at_call 44; refine ha1.mono ?_; rintro e w1 ⟨rfl, rfl⟩)
        go_roundw
        case rel => exact ⟨k + 1, _, ms, rfl, rfl, by omega, HP1⟩
        case measure => simp [intOf]; omega
      | true =>
        rw [hb] at ha1
        have hbd := endR_bd x hk59
        go_wp2_with (go_at_call 44; refine ha1.mono ?_; rintro e w1 ⟨rfl, rfl⟩)
        clear ha1
        go_loop [9] (fun n => ∃ j : Nat, n = .int .i64 j ∧ k ≤ j ∧ j ≤ 12 ∧ Hid (endR x 12 j = endR x 12 k)) (fun n => 13 - (intOf n).toNat)
        case atStart => exact ⟨k, rfl, Nat.le_refl _, hk59, Hid.mk'' rfl⟩
        case round =>
          obtain ⟨j, rfl, hj1, hj2, HE⟩ := hrel
          by_cases hj59 : j < 12
          · have ha2 := hall (j + 1) (by omega) w1
            rw [show (((j + 1 : Nat) : Int)) = (j : Int) + 1 by omega] at ha2
            cases hb2 : x.testBit (j + 1) with
            | true =>
              rw [hb2] at ha2
              have HE2 : Hid (endR x 12 (j + 1) = endR x 12 k) := (endR_step hj59 hb2).symm.trans HE.out
              clear HE hall
              go_wp2_with (go_at_call 44; refine ha2.mono ?_; rintro e w2 ⟨rfl, rfl⟩)
              go_round
              case rel => exact ⟨j + 1, rfl, by omega, by omega, HE2⟩
              case measure => simp [intOf]; omega
            | false =>
              rw [hb2] at ha2
              have hno : ¬ (j < 12 ∧ x.testBit (j + 1) = true) := by rw [hb2]; simp
              clear hall
              go_wp2_with (go_at_call 44; refine ha2.mono ?_; rintro e w2 ⟨rfl, rfl⟩)
              have hm : endR x 12 k = j := HE.out.symm.trans (endR_stop hno)
              have hit := item_any k j (by omega) (by omega) w2
              have hrow := HP.out.row
              have hml := HP.out.len
              have hsrc := Src_oneS (w := w2) (x := ⟨(itemB (k, j)).toArray⟩)
              have hb3 : Below w2.heap.size w2 (w2.alloc (.cells #[.string ⟨(itemB (k, j)).toArray⟩] 9)) := (Below.refl _ _).alloc (Nat.le_refl _) _
              have hrow3 := hrow.upd (Upd.ofBelow hb3 : Upd w2 _ (fun _ => False)) (fun _ _ => id)
              obtain ⟨uo, uc, rfl, _, _⟩ := hrow.form
              have HRW := Hid.mk'' hrow
              have HMM := Hid.mk'' hm
              clear hm hno hrow HE
              generalize hI : itemB (k, j) = it at *
              have HIT := Hid.mk'' hI
              clear hI
              go_wp2_with (first | (go_at_call 58; refine hit.mono ?_; rintro e w3 ⟨rfl, rfl⟩) | (at_builtin; refine wpList_appO _ rfl (.tmp 40) (.tmp 44) 69 69 rfl (w.heap.size + 1) 9 i0 (.string ⟨#[]⟩) 1 Tryd.underlying69 hi0 hz0 hz1 rfl (by omega) _ ms.length (strs ms) rfl hrow3 _ rfl 1 _ hsrc (by omega) (by simp; omega) ?_; intro v6 w6 h1 h2 h3; obtain ⟨a6, c6, rfl, _, _⟩ := h1.form))
              have HP1 := HP.out.run hk59 (by decide) hb (by rw [HMM.out, HIT.out]; exact h1) (HP.out.bel.trans ((hb3.mono hz).trans (h2.below (by simp; omega) (fun q hq e => by have := (HRW.out.lt e.symm).1; omega))))
              rw [HMM.out] at HP1
              go_roundw
              case rel => exact ⟨j + 1, _, _, rfl, rfl, by omega, HP1⟩
              case measure => simp [intOf]; omega
          · have hno : ¬ (j < 12 ∧ x.testBit (j + 1) = true) := fun h => hj59 h.1
            have hj60 : ¬ ((j : Int) < 12) := by omega
            clear hall
            go_wp2_with fail
            have hm : endR x 12 k = j := HE.out.symm.trans (endR_stop hno)
            have hit := item_any k j (by omega) (by omega) w1
            have hrow := HP.out.row
            have hml := HP.out.len
            have hsrc := Src_oneS (w := w1) (x := ⟨(itemB (k, j)).toArray⟩)
            have hb3 : Below w1.heap.size w1 (w1.alloc (.cells #[.string ⟨(itemB (k, j)).toArray⟩] 9)) := (Below.refl _ _).alloc (Nat.le_refl _) _
            have hrow3 := hrow.upd (Upd.ofBelow hb3 : Upd w1 _ (fun _ => False)) (fun _ _ => id)
            obtain ⟨uo, uc, rfl, _, _⟩ := hrow.form
            have HRW := Hid.mk'' hrow
            have HMM := Hid.mk'' hm
            clear hm hno hrow HE
            generalize hI : itemB (k, j) = it at *
            have HIT := Hid.mk'' hI
            clear hI
            go_wp2_with (first | (go_at_call 58; refine hit.mono ?_; rintro e w3 ⟨rfl, rfl⟩) | (at_builtin; refine wpList_appO _ rfl (.tmp 40) (.tmp 44) 69 69 rfl (w.heap.size + 1) 9 i0 (.string ⟨#[]⟩) 1 Tryd.underlying69 hi0 hz0 hz1 rfl (by omega) _ ms.length (strs ms) rfl hrow3 _ rfl 1 _ hsrc (by omega) (by simp; omega) ?_; intro v6 w6 h1 h2 h3; obtain ⟨a6, c6, rfl, _, _⟩ := h1.form))
            have HP1 := HP.out.run hk59 (by decide) hb (by rw [HMM.out, HIT.out]; exact h1) (HP.out.bel.trans ((hb3.mono hz).trans (h2.below (by simp; omega) (fun q hq e => by have := (HRW.out.lt e.symm).1; omega))))
            rw [HMM.out] at HP1
            go_roundw
            case rel => exact ⟨j + 1, _, _, rfl, rfl, by omega, HP1⟩
            case measure => simp [intOf]; omega
    · obtain rfl : k = 13 := by omega
      have hrest := HP.out.rest
      rw [runsR_over (by decide), List.map_nil, List.append_nil] at hrest
      subst hrest
      have hjn := join_row HP.out.row ⟨#[44]⟩ (by have := HP.out.len; omega) (by
        have h1 := join_len ms 5 HP.out.short
        have h2 := HP.out.len
        show (Lib.join ms [44]).length ≤ _
        omega)
      clear hall
      go_wp2_with fail
      refine hjn.mono ?_
      rintro e w2 ⟨rfl, hb2⟩
      have HB2 := Hid.mk'' hb2
      clear hb2 hjn
      go_wp2_with fail
      go_ret
      exact ⟨ret_str (by rw [HF.out]), ((Below.refl _ _).alloc (Nat.le_refl _) _).trans ((HP.out.bel.mono (Nat.le_succ _)).trans (HB2.out.mono (by omega)))⟩
end Go.Proofs.YtdojpnhjnhecmaaDoor
